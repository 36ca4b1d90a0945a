/- Walk of integer.root, for numbers of any length. -/
import Derived.Test.YtobffffcihlkbaaDoorLong
import Derived.Test.YtobffffcihlkbaaDoorDiff
import Derived.Test.YtobffffcihlkbaaDoorRoots
namespace Lw
open Go Go.RowKit
theorem nbits_le {N : Nat} (h : N ≠ 0) : 2 ^ (nbits (digs N) - 1) ≤ N := by
  have hl : (digs N).length ≠ 0 := by
    intro e
    exact h (digs_eq_nil.1 (List.eq_nil_of_length_eq_zero e))
  obtain ⟨k, hk⟩ : ∃ k, (digs N).length = k + 1 := ⟨(digs N).length - 1, by omega⟩
  have hd0 : dg (digs N) k ≠ 0 := by
    refine trm_digs N _ ?_
    rw [List.getLast?_eq_getElem?, hk, show k + 1 - 1 = k by omega, dg_get? (by omega)]
  have hd := dg_lt (wds_digs N) k
  obtain ⟨b1, b2, b3, b4⟩ := bitLen_spec hd0 (by omega)
  have e : lo (digs N) (k + 1) = N := by rw [lo_all (by omega), val_digs]
  rw [lo_succ] at e
  unfold nbits
  rw [if_neg hl, hk, show k + 1 - 1 = k by omega, show k * 32 + Lib.bitLen (dg (digs N) k) - 1 = 32 * k + (Lib.bitLen (dg (digs N) k) - 1) by omega, Nat.pow_add, Nat.pow_mul]
  have h2 := Nat.mul_le_mul_left (pw k) b2
  have h3 : (2 ^ 32) ^ k = pw k := rfl
  rw [h3]
  omega
theorem nbits_bounds {N n : Nat} (h : (digs N).length = n) (h2 : 2 < n) : 65 ≤ nbits (digs N) ∧ nbits (digs N) ≤ 32 * n := by
  have hd0 : dg (digs N) (n - 1) ≠ 0 := by
    refine trm_digs N _ ?_
    rw [List.getLast?_eq_getElem?, h, dg_get? (by omega)]
  have hd := dg_lt (wds_digs N) (n - 1)
  obtain ⟨b1, b2, b3, b4⟩ := bitLen_spec hd0 (by omega)
  have b5 := bitLen_32 hd
  unfold nbits
  rw [h, if_neg (by omega)]
  omega
/-- Newton's method begins above the root, and not above the number. -/
theorem newton_fit {N s : Nat} (hN : 2 ^ (2 * s) ≤ N) (h4 : 4 ≤ N) : (rt (N / 2 ^ (2 * s)) + 1) * 2 ^ s ≤ N := by
  have e : 2 ^ (2 * s) = 2 ^ s * 2 ^ s := by rw [← Nat.pow_add]; congr 1; omega
  have h1 : 2 ^ s ≤ rt N := le_rt (by rw [← e]; exact hN)
  have h2 : rt (N / 2 ^ (2 * s)) * 2 ^ s ≤ rt N := by
    apply le_rt
    have h3 := rt_le (N / 2 ^ (2 * s))
    have h5 : rt (N / 2 ^ (2 * s)) * 2 ^ s * (rt (N / 2 ^ (2 * s)) * 2 ^ s) = rt (N / 2 ^ (2 * s)) * rt (N / 2 ^ (2 * s)) * 2 ^ (2 * s) := by rw [e]; ac_rfl
    rw [h5]
    exact Nat.le_trans (Nat.mul_le_mul_right _ h3) (Nat.div_mul_le_self _ _)
  have h6 : 2 ≤ rt N := le_rt (by omega)
  have h7 := rt_le N
  have h8 : 2 * rt N ≤ rt N * rt N := Nat.mul_le_mul_right _ h6
  rw [Nat.add_mul, Nat.one_mul]
  omega
theorem blk_one' (w : World) (t : TypeId) : Blk (w.alloc (.cells #[.int .u32 1] t)) w.heap.size t [1] := Blk.new w t [1]
theorem wds_one' : Wds [1] := by rw [wds_cons]; exact ⟨by omega, wds_nil⟩
end Lw
namespace Go.Proofs.YtobffffcihlkbaaDoor
open Go Go.RowKit Lw
set_option maxRecDepth 100000 in
set_option maxHeartbeats 6400000 in
theorem root_step (N : Nat) (ih : ∀ N', N' < N → ∀ (A : Option Addr) (n c B : Nat) (w : World), Rd w B A (digs N') → B ≤ w.heap.size → (digs N').length = n → n ≤ 8388608 → n ≤ c → Calls Tryd.prog 25 #[.slice A n c] w (OutW w (rt N')))
    (A : Option Addr) (n c B : Nat) (w : World) (h : Rd w B A (digs N)) (hB : B ≤ w.heap.size) (hn : (digs N).length = n) (hl : n ≤ 8388608) (hc : n ≤ c) (h2 : 2 < n) :
    Calls Tryd.prog 25 #[.slice A n c] w (OutW w (rt N)) := by
  obtain ⟨nb1, nb2⟩ := nbits_bounds hn h2
  have hN0 : N ≠ 0 := by intro e; subst e; have e2 : (digs 0).length = 0 := rfl; omega
  have nb3 := nbits_le hN0
  obtain ⟨b, hb⟩ : ∃ b, b = nbits (digs N) := ⟨_, rfl⟩
  have hbit := bitsOf_any A (digs N) n c B w h hn (by omega)
  rw [← hb] at nb1 nb2 nb3 hbit
  obtain ⟨s, hs⟩ : ∃ s, s = b / 4 := ⟨_, rfl⟩
  have hs1 : 16 ≤ s := by omega
  have hs2 : 2 * s ≤ 134217728 := by omega
  have hq4 : (b : Int) / 4 = (s : Int) := by omega
  have hpow : 2 ^ (2 * s) ≤ N := Nat.le_trans (Nat.pow_le_pow_right (by omega) (by omega)) nb3
  have h4N : 4 ≤ N := Nat.le_trans (show 4 ≤ 2 ^ (2 * s) from Nat.le_trans (show 4 ≤ 2 ^ 2 from Nat.le_refl _) (Nat.pow_le_pow_right (by omega) (by omega))) hpow
  have hfit := newton_fit hpow h4N
  have hst := newton_start (N := N) (s := s)
  have hless : N / 2 ^ (2 * s) < N := Nat.div_lt_self (by omega) (Nat.le_trans (show 2 ≤ 2 ^ 1 from Nat.le_refl _) (Nat.pow_le_pow_right (by omega) (by omega)))
  obtain ⟨N', hN'⟩ : ∃ x, x = N / 2 ^ (2 * s) := ⟨_, rfl⟩
  rw [← hN'] at hfit hst hless
  have Hbit := Lib.hid hbit
  have Hih := Lib.hid (ih N' hless)
  have HX := Lib.hid (And.intro hfit hst)
  have HN' := Lib.hid hN'
  have HN0 := Lib.hid hN0
  have Hn := Lib.hid hn
  have hlN' : (digs N').length ≤ n := by rw [← hn]; exact digs_mono (by omega)
  have HL := Lib.hid hlN'
  have hrl : (digs (rt N' + 1)).length ≤ n := by
    rw [← hn]; apply digs_mono
    have := Nat.le_trans (Nat.le_mul_of_pos_right (rt N' + 1) (Nat.pow_pos (n := s) (show 0 < 2 by omega))) hfit
    exact this
  have HRL := Lib.hid hrl
  have HP := Lib.hid (show s / 32 = s / 32 ∧ s % 32 = s % 32 from ⟨rfl, rfl⟩)
  have hs0 : Hid (s = b / 4) := Lib.hid hs
  clear hbit hN' hN0 hn hfit hst hless nb1 nb2 nb3 hb hs hpow h4N hlN' hrl ih
  go_enter Tryd.func25, Tryd.ntmps25
  go_wp2_with fail
  refine (Hbit.out).mono ?_
  rintro e w1 ⟨rfl, rfl⟩
  obtain ⟨s2, hs2'⟩ : ∃ x, x = 2 * s := ⟨_, rfl⟩
  have hq5 : (2 : Int) * (s : Int) = (s2 : Int) := by omega
  have hs3 : s2 ≤ 134217728 := by omega
  have HS2 := Lib.hid hs2'
  clear hs2'
  go_wp2_with fail
  refine (shiftDown_any A (digs N) n c B s2 (s2 / 32) (s2 % 32) (2 ^ (s2 % 32)) (2 ^ (32 - s2 % 32)) _ h hB Hn.out (by omega) (by omega) rfl rfl rfl rfl).mono ?_
  rintro e w2 ⟨A2, c2, rfl, hc2, hr2, hb2⟩
  rw [val_digs, HS2.out, ← HN'.out] at hr2 hc2 ⊢
  go_wp2_with fail
  refine (Hih.out A2 _ c2 _ _ hr2 (Nat.le_refl _) rfl (Nat.le_trans HL.out hl) hc2).mono ?_
  rintro e w3 ⟨A3, c3, rfl, hc3, hr3, hb3⟩
  go_wp2_with fail
  have hbk := blk_one' w3 46
  have hb4 : Below w.heap.size w (w3.alloc (.cells #[.int .u32 1] 46)) := (hb2.trans (hb3.mono hb2.size)).alloc (hb2.trans (hb3.mono hb2.size)).size _
  have hv1 : val [1] = 1 := by simp [val]
  refine (add_any A3 (some ⟨w3.heap.size, 0, none⟩) (digs (rt N')) [1] _ 1 c3 1 _ _ _ (hr3.alloc (Nat.le_refl _) _) (hbk.rd wds_one') (by simp) (Nat.le_refl _) rfl rfl (Nat.le_trans (digs_mono (Nat.le_succ _)) (Nat.le_trans HRL.out (by omega))) (by omega) hc3 (Nat.le_refl _)).mono ?_
  rintro e w4 ⟨A4, c4, rfl, hc4, hr4, hb5⟩
  rw [val_digs, hv1] at hr4 hc4 ⊢
  have hb6 := below_next hb4 hb5 (Nat.le_refl _)
  clear hv1 hbk
  go_wp2_with fail
  refine (shiftUp_any A4 (digs (rt N' + 1)) _ c4 _ s (s / 32) (s % 32) (2 ^ (s % 32)) (2 ^ (32 - s % 32)) _ hr4 (Nat.le_refl _) rfl (Nat.le_trans HRL.out (by omega)) (by omega) rfl rfl rfl rfl).mono ?_
  rintro e w5 ⟨vs, rfl, hk5, hvl, hvw, hvv, hb7⟩
  have hX : val vs = (rt N' + 1) * 2 ^ s := by
    rw [hvv, val_digs, pow_parts32 s]
    generalize pw (s / 32) = a
    generalize 2 ^ (s % 32) = b
    generalize rt N' + 1 = c
    ac_rfl
  obtain ⟨X, hXe⟩ : ∃ X, X = (rt N' + 1) * 2 ^ s := ⟨_, rfl⟩
  rw [← hXe] at hX
  have HXX := Lib.hid (show X ≤ N ∧ rt N < X by rw [hXe]; exact HX.out)
  have hrv := (hk5.rd hvw).digs
  rw [hX] at hrv
  have hlv := digs_len_le hvw
  rw [hX] at hlv
  have hL5 : vs.length ≤ 16777216 := by rw [hvl]; have := HRL.out; omega
  have HVL := Lib.hid hvl
  obtain ⟨vl, hvl2⟩ : ∃ x, x = (digs (rt N' + 1)).length + s / 32 + 1 := ⟨_, rfl⟩
  rw [← hvl2] at hvl ⊢
  have hb8 := below_next hb6 hb7 (Nat.le_refl _)
  have Hlv := Lib.hid (show (digs X).length ≤ vl by rw [← hvl]; exact hlv)
  have hvll : vl ≤ 16777216 := by rw [← hvl]; exact hL5
  have HXv := Lib.hid hX
  have HVl := Lib.hid hvl
  clear hvv hXe hX hlv hvl hvl2 hL5
  go_wp2_with fail
  refine (trim_any _ vs vl vl _ _ (hk5.rd hvw) HVl.out (Nat.le_refl _) (by omega)).mono ?_
  rintro e w6 ⟨rfl, rfl⟩
  rw [HXv.out]
  go_wp2_with fail
  go_loopw [5] (fun a wr => ∃ (X x d : Nat) (D : Option Addr), a = .slice D x d ∧ Rd wr wr.heap.size D (digs X) ∧ Hid ((digs X).length = x) ∧ x ≤ n ∧ x ≤ d ∧ Hid (rt N ≤ X ∧ 0 < X ∧ X ≤ N) ∧ Below w.heap.size w wr) (fun a wr => rdv wr a)
  case atStart => exact ⟨X, _, _, _, rfl, hrv, Lib.hid rfl, by rw [← Hn.out]; exact digs_mono HXX.out.1, Hlv.out, Lib.hid ⟨Nat.le_of_lt HXX.out.2, by have := HXX.out.2; omega, HXX.out.1⟩, hb8⟩
  case round =>
    clear hr2 hb2 hr3 hb3 hb4 hr4 hb5 hb6 hk5 hb7 hb8 hrv HXX hvll hq4 hq5
    obtain ⟨X, x, d, D, rfl, hr, hxl, hx, hxd, hX, hbw⟩ := hrel
    have RX := Lib.hid (rdv_rd (c := d) hr hxl.out)
    go_wp2_with fail
    refine (divide_of A D N X n x c d _ _ _ (h.below (hbw.mono hB)) hr (Nat.le_trans hB hbw.size) (Nat.le_refl _) Hn.out hxl.out hl (by omega) hc hxd (by have := hX.out.2.1; omega) (.inr longOK)).mono ?_
    rintro e w7 ⟨A7, c7, A8, c8, rfl, hc7, hc8, hr7, hr8, hb9⟩
    have hlq : (digs (N / X)).length ≤ n := by rw [← Hn.out]; exact digs_mono (Nat.div_le_self _ _)
    have hge := newton_ge (N := N) (x := X) hX.out.2.1
    have hend := newton_end (N := N) (x := X) hX.out.2.1 hX.out.1
    have HE := Lib.hid (And.intro hge hend)
    have hrX := hr.below hb9
    clear hge hend
    obtain ⟨Q, hQ⟩ : ∃ Q, Q = N / X := ⟨_, rfl⟩
    rw [← hQ] at hr7 hc7 hlq HE ⊢
    have HLQ := Lib.hid hlq
    clear hQ hlq
    go_wp2_with fail
    refine (add_any D A7 (digs X) (digs Q) x _ d c7 _ _ _ hrX hr7 hb9.size (Nat.le_refl _) hxl.out rfl (by omega) (Nat.le_trans HLQ.out (by omega)) hxd hc7).mono ?_
    rintro e w9 ⟨A9, c9, rfl, hc9, hr9, hb10⟩
    rw [val_digs, val_digs] at hr9 hc9 ⊢
    have hls : (digs (X + Q)).length ≤ n + 1 := by
      apply digs_length_le
      have h1 : X < pw n := lt_of_digs_length (by rw [hxl.out]; exact hx)
      have h2 : Q < pw n := lt_of_digs_length HLQ.out
      rw [pw_succ]; omega
    have HLS := Lib.hid hls
    clear hls
    go_wp2_with fail
    refine (shiftDown_any A9 (digs (X + Q)) _ c9 _ 1 0 1 2 2147483648 _ hr9 (Nat.le_refl _) rfl (Nat.le_trans HLS.out (by omega)) (by omega) rfl rfl rfl rfl).mono ?_
    rintro e w10 ⟨A10, c10, rfl, hc10, hr10, hb11⟩
    rw [val_digs] at hr10 hc10 ⊢
    rw [show (X + Q) / 2 ^ 1 = (X + Q) / 2 from rfl] at hr10 hc10 ⊢
    have hlZ2 : (digs ((X + Q) / 2)).length ≤ 4294967296 := Nat.le_trans (digs_mono (Nat.div_le_self _ _)) (Nat.le_trans HLS.out (by omega))
    obtain ⟨Z, hZ⟩ : ∃ Z, Z = (X + Q) / 2 := ⟨_, rfl⟩
    rw [← hZ] at hr10 hc10 HE hlZ2 ⊢
    clear hZ
    have hb12 := hb9.trans ((hb10.mono hb9.size).trans (hb11.mono (Nat.le_trans hb9.size hb10.size)))
    have hrX2 := hr.below hb12
    have hb13 := below_next hbw hb12 (Nat.le_refl _)
    have hlZ : Z ≤ X → (digs Z).length ≤ n := fun hz => Nat.le_trans (digs_mono hz) (by rw [hxl.out]; exact hx)
    have HB := Lib.hid (And.intro hb12 hb13)
    clear hb9 hb10 hb11 hb12 hb13
    go_wp2_with fail
    refine (compare_any A10 D (digs Z) (digs X) _ x c10 d _ _ _ hr10 hrX2 (trm_digs _) (trm_digs _) rfl hxl.out hlZ2 (by omega)).mono ?_
    rintro e w11 ⟨rfl, q, rfl⟩
    rw [val_digs, val_digs]
    by_cases hd : X ≤ Z
    · have hcm := cmpN_nonneg hd
      have HR := Lib.hid (HE.out.2 hd)
      go_wp2_with fail
      go_ret
      exact ⟨D, d, ret_slice (by rw [← HR.out, hxl.out]), by rw [← HR.out, hxl.out]; exact hxd, by rw [← HR.out]; exact (hrX2.drewN q).more (by simpa using HB.out.1.size), HB.out.2.trans (below_drewN' _ _ _)⟩
    · have hcm := cmpN_neg (show Z < X by omega)
      have HZ := Lib.hid (show Z < X by omega)
      go_wp2_with fail
      go_roundw
      case rel =>
        refine ⟨Z, _, c10, A10, rfl, hr10.drewN q, Lib.hid rfl, hlZ (Nat.le_of_lt HZ.out), hc10, Lib.hid ⟨HE.out.1, ?_, Nat.le_trans (Nat.le_of_lt HZ.out) hX.out.2.2⟩, HB.out.2.trans (below_drewN' _ _ _)⟩
        have := HE.out.1
        have := rt_pos HN0.out
        omega
      case measure =>
        rw [RX.out, rdv_rd (hr10.drewN q) rfl, val_digs, val_digs]
        exact HZ.out
theorem rootOK : RootOK := by
  have all : ∀ N, ∀ (A : Option Addr) (n c B : Nat) (w : World), Rd w B A (digs N) → B ≤ w.heap.size → (digs N).length = n → n ≤ 8388608 → n ≤ c → Calls Tryd.prog 25 #[.slice A n c] w (OutW w (rt N)) := by
    intro N
    induction N using Nat.strongRecOn with
    | _ N ih =>
      intro A n c B w h hB hn hl hc
      rcases Nat.lt_or_ge 2 n with h2 | h2
      · exact root_step N ih A n c B w h hB hn hl hc h2
      · exact root_small A N n c B w h hB hn h2
  intro A N n c B w h hB hn hl hc
  exact all N A n c B w h hB hn hl hc
end Go.Proofs.YtobffffcihlkbaaDoor
