/- Walk of integer.divideLong: the long division. -/
import Derived.Test.YtobffffcihlkbaaDoorGuess
import Derived.Test.YtobffffcihlkbaaDoorShift
import Derived.Test.YtobffffcihlkbaaDoorDivide
namespace Lw
open Go Go.RowKit
/-- The shift that sets the top bit of a word. -/
theorem shift_top {d : Nat} (h0 : d ≠ 0) (h : d < 4294967296) : 1 ≤ Lib.bitLen d ∧ Lib.bitLen d ≤ 32 ∧ 2147483648 ≤ d * 2 ^ (32 - Lib.bitLen d) ∧ d * 2 ^ (32 - Lib.bitLen d) < 4294967296 := by
  obtain ⟨h1, h2, h3, _⟩ := bitLen_spec h0 (show d < 18446744073709551616 by omega)
  have h4 : Lib.bitLen d ≤ 32 := Lib.bitLen_le d 32 (by omega) (by simpa using h)
  have e1 : 2 ^ (Lib.bitLen d - 1) * 2 ^ (32 - Lib.bitLen d) = 2147483648 := by rw [← Nat.pow_add, show Lib.bitLen d - 1 + (32 - Lib.bitLen d) = 31 by omega]
  have e2 : 2 ^ Lib.bitLen d * 2 ^ (32 - Lib.bitLen d) = 4294967296 := by rw [← Nat.pow_add, show Lib.bitLen d + (32 - Lib.bitLen d) = 32 by omega]
  have hp : 0 < 2 ^ (32 - Lib.bitLen d) := Nat.pow_pos (by omega)
  have m1 := Nat.mul_le_mul_right (2 ^ (32 - Lib.bitLen d)) h2
  have m2 := Nat.mul_lt_mul_of_pos_right h3 hp
  exact ⟨h1, h4, by omega, by omega⟩
/-- The shifted divisor has as many words as the divisor, and its top bit is set. -/
theorem shifted_top {l : List Nat} {k P : Nat} (hw : Wds l) (hl : l.length = k + 2) (h1 : 2147483648 ≤ dg l (k + 1) * P) (h2 : dg l (k + 1) * P < 4294967296) (hP : 0 < P) (hPd : dg l (k + 1) * P + P ≤ 4294967296) :
    (digs (val l * P)).length = k + 2 ∧ 2147483648 ≤ dg (digs (val l * P)) (k + 1) := by
  have e : lo l (k + 2) = val l := lo_all (by omega)
  rw [show k + 2 = k + 1 + 1 from rfl, lo_succ] at e
  have h3 := lo_lt hw (k + 1)
  have e2 : val l * P = lo l (k + 1) * P + pw (k + 1) * (dg l (k + 1) * P) := by rw [← e, Nat.add_mul, Nat.mul_assoc]
  have h4 : lo l (k + 1) * P + P ≤ pw (k + 1) * P := by
    have := Nat.mul_le_mul_right P h3
    rwa [Nat.succ_mul] at this
  have h5 : pw (k + 1) * (dg l (k + 1) * P) + pw (k + 1) * P ≤ pw (k + 2) := by
    rw [← Nat.mul_add, pw_succ (k + 1), Nat.mul_comm 4294967296]
    exact Nat.mul_le_mul_left _ hPd
  have h6 : pw (k + 1) * 2147483648 ≤ pw (k + 1) * (dg l (k + 1) * P) := Nat.mul_le_mul_left _ h1
  have hlt : val l * P < pw (k + 2) := by omega
  have hpp := pw_pos (k + 1)
  have hle := digs_length_le hlt
  have hlen : (digs (val l * P)).length = k + 2 := by
    rcases Nat.lt_or_ge (digs (val l * P)).length (k + 2) with h7 | h7
    · have := lt_of_digs_length (n := val l * P) (k := k + 1) (by omega)
      omega
    · omega
  refine ⟨hlen, ?_⟩
  have e3 : lo (digs (val l * P)) (k + 2) = val l * P := by rw [lo_all (by omega), val_digs]
  rw [show k + 2 = k + 1 + 1 from rfl, lo_succ] at e3
  have h8 := lo_lt (wds_digs (val l * P)) (k + 1)
  refine Nat.le_of_not_lt fun h9 => ?_
  have := Nat.mul_le_mul_left (pw (k + 1)) (show dg (digs (val l * P)) (k + 1) + 1 ≤ 2147483648 by omega)
  rw [Nat.mul_add, Nat.mul_one] at this
  omega
theorem top_room {d P : Nat} (h1 : d * P < 4294967296) (h2 : ∃ k, k * P = 4294967296) : d * P + P ≤ 4294967296 := by
  obtain ⟨k, hk⟩ := h2
  rw [← hk] at h1 ⊢
  have h3 : d < k := Nat.lt_of_mul_lt_mul_right h1
  have := Nat.mul_le_mul_right P h3
  rwa [Nat.succ_mul] at this
/-- The dividend is below the divisor's multiple by the words that the quotient has. -/
theorem long_start {N M n k P : Nat} (hn : (digs N).length = n) (hm : (digs M).length = k + 2) (hnm : k + 2 ≤ n) (hP : 0 < P) : N * P < M * P * pw (n - (k + 2) + 1) := by
  have h1 : N < pw n := lt_of_digs_length (by omega)
  have h2 := pw_le_val (trm_digs M) (by intro e; rw [e] at hm; simp at hm)
  rw [val_digs, hm] at h2
  have h3 : pw n = pw (k + 2 - 1) * pw (n - (k + 2) + 1) := by rw [← pw_add]; congr 1; omega
  have h4 : pw (k + 2 - 1) * pw (n - (k + 2) + 1) ≤ M * pw (n - (k + 2) + 1) := Nat.mul_le_mul_right _ h2
  have h5 : N < M * pw (n - (k + 2) + 1) := by omega
  have h6 := Nat.mul_lt_mul_of_pos_right h5 hP
  have h7 : M * pw (n - (k + 2) + 1) * P = M * P * pw (n - (k + 2) + 1) := by ac_rfl
  omega
theorem shr_back {r P : Nat} (hP : 0 < P) : r * P / P = r := Nat.mul_div_cancel r hP
end Lw
namespace Go.Proofs.YtobffffcihlkbaaDoor
open Go Go.RowKit Lw
set_option maxRecDepth 100000 in
set_option maxHeartbeats 3200000 in
theorem long_any (A A' : Option Addr) (N M n k c c' B B' : Nat) (w : World) (h : Rd w B A (digs N)) (h' : Rd w B' A' (digs M)) (hB : B ≤ w.heap.size) (hB' : B' ≤ w.heap.size)
    (hn : (digs N).length = n) (hm : (digs M).length = k + 2) (hl : n ≤ 8388608) (hnm : k + 2 ≤ n) :
    Calls Tryd.prog 49 #[.slice A n c, .slice A' (k + 2 : Nat) c'] w (PairW w (N / M) (N % M)) := by
  obtain ⟨b, off, rfl, hb, hcell, hlt⟩ := h'.at_ (k := k + 1) (by rw [hm]; omega)
  have hd0 : dg (digs M) (k + 1) ≠ 0 := by
    refine trm_digs M _ ?_
    rw [List.getLast?_eq_getElem?, hm, show k + 2 - 1 = k + 1 by omega, dg_get? (by omega)]
  obtain ⟨t1, t2, t3, t4⟩ := shift_top hd0 hlt
  obtain ⟨d, hd⟩ : ∃ d, d = dg (digs M) (k + 1) := ⟨_, rfl⟩
  rw [← hd] at hcell hlt hd0 t1 t2 t3 t4
  have hk := fun W => (Tryd.bits_LeadingZeros32 (d : Int) W (by omega) (by omega))
  obtain ⟨s, hs⟩ : ∃ s, s = 32 - Lib.bitLen d := ⟨_, rfl⟩
  rw [← hs] at t3 t4
  have hs32 : s ≤ 31 := by omega
  have hk2 : ∀ W, Calls Tryd.prog 66 #[.int .u32 (d : Int)] W fun e w' => e = .returned (.int .i64 (s : Int)) ∧ W = w' := fun W => (hk W).mono fun e w' h => ⟨by rw [h.1, Int.toNat_natCast, hs]; congr 2; omega, h.2.symm⟩
  have Hk := Lib.hid hk2
  have hP0 : 0 < 2 ^ s := Nat.pow_pos (by omega)
  have htop := shifted_top (wds_digs M) hm (by rw [← hd]; exact t3) (by rw [← hd]; exact t4) hP0 (by rw [← hd]; exact top_room t4 ⟨2 ^ (32 - s), pow_parts (by omega)⟩)
  rw [val_digs] at htop
  have hst := long_start hn hm hnm hP0
  obtain ⟨P, hP⟩ : ∃ P, P = 2 ^ s := ⟨_, rfl⟩
  rw [← hP] at hP0 htop hst
  have hs1 : 0 = s / 32 := by omega
  have hs2 : s = s % 32 := by omega
  have HS1 := Lib.hid (And.intro hs1 (And.intro hs2 hP))
  have HN := Lib.hid hn
  have HM := Lib.hid hm
  have HT := Lib.hid htop
  have HS := Lib.hid hst
  have HP := Lib.hid hP0
  obtain ⟨j, hj⟩ : ∃ j, n = k + 2 + j := ⟨n - (k + 2), by omega⟩
  subst hj
  clear hk hk2 hs t1 t2 t3 t4 hd hn hm htop hst hP0 hd0 hs1 hs2 hP
  go_enter Tryd.func49, Tryd.ntmps49
  go_wp2_with fail
  refine (Hk.out _).mono ?_
  rintro e w1 ⟨rfl, rfl⟩
  go_wp2_with fail
  refine (shiftUp_any A (digs N) (k + 2 + j) c B s 0 s P (2 ^ (32 - s)) _ h hB HN.out (by omega) (by omega) HS1.out.1 HS1.out.2.1 HS1.out.2.2 rfl).mono ?_
  rintro e w2 ⟨us, rfl, hu1, hul, huw, huv, hub⟩
  rw [val_digs, pw_zero, Nat.one_mul] at huv
  have hu1l := hu1.lt
  have Hul := Lib.hid hul
  have Huv := Lib.hid huv
  clear hul huv
  go_wp2_with fail
  refine (shiftUp_any (some ⟨b, off, none⟩) (digs M) (k + 2) c' B' s 0 s P (2 ^ (32 - s)) _ (h'.below (hub.mono hB')) (Nat.le_trans hB' hub.size) HM.out (by omega) (by omega) HS1.out.1 HS1.out.2.1 HS1.out.2.2 rfl).mono ?_
  rintro e w3 ⟨vs, rfl, hv1, hvl, hvw, hvv, hvb⟩
  rw [val_digs, pw_zero, Nat.one_mul] at hvv
  have hv1l := hv1.lt
  have Hvl := Lib.hid hvl
  have Hvv := Lib.hid hvv
  clear hvl hvv
  go_wp2_with fail
  refine (trim_any _ vs _ _ _ _ (hv1.rd hvw) Hvl.out (by omega) (by omega)).mono ?_
  rintro e w4 ⟨rfl, rfl⟩
  have hvr := (hv1.rd hvw).digs
  rw [Hvv.out] at hvr ⊢
  rw [HT.out.1]
  obtain ⟨V, hV⟩ : ∃ V, V = M * P := ⟨_, rfl⟩
  rw [← hV] at hvr
  have HV := Lib.hid hV
  have hub2 := hub.trans (hvb.mono hub.size)
  have hu2 := hu1.below hvb hu1l
  clear hV hub hvb hu1 hv1
  have hj1 : IntKind.i64.wrap ((k : Int) + 2 + (j : Int) + 1 - ((k : Int) + 2)) = ((j + 1 : Nat) : Int) := by rw [IntWalk.i64_in _ (by omega)]; omega
  have hj2 : (k : Int) + 2 + (j : Int) + 1 - ((k : Int) + 2) = ((j + 1 : Nat) : Int) := by omega
  go_wp2_with (at_make; refine wpList_make32 _ rfl _ _ _ rfl 46 Tryd.underlying22 info32 _ _ _ _ (j + 1) rfl rfl (by omega) (by omega) (by omega) ?_; intro w4 hq1 hqb hqs)
  have hu4 := hu2.below hqb (Nat.lt_of_lt_of_le hu1l (Nat.le_of_lt (Nat.lt_of_lt_of_le hv1l (Nat.le_refl _)))|> fun h => by omega)
  have hv4 := hvr.below hqb
  have hb4 := hub2.trans (hqb.mono (by omega))
  have hgq := hq1.lt
  have HKS := Lib.hid (show Ks (N * P) V (k + 2) us (List.replicate (j + 1) 0) (j + 1) from Ks.start Huv.out (by rw [Hul.out]; omega) (by rw [HV.out]; have := HS.out; rwa [show k + 2 + j - (k + 2) + 1 = j + 1 by omega] at this))
  clear hu2 hvr hub2 hqb hqs
  generalize w3.heap.size = gq at *
  generalize w2.heap.size = gv at *
  go_loopw [9] (fun i wr => ∃ (i' : Int) (xs qs : List Nat), -1 ≤ i' ∧ i' ≤ j ∧ i = .int .i64 i' ∧ Blk wr w.heap.size 46 xs ∧ Hid (xs.length = k + 2 + j + 1) ∧ Wds xs ∧ Blk wr gq 46 qs ∧ Hid (qs.length = j + 1) ∧ Wds qs ∧
      Rd wr gq (some ⟨gv, 0, none⟩) (digs V) ∧ Hid (Ks (N * P) V (k + 2) xs qs (i' + 1).toNat) ∧ Below w.heap.size w wr) (fun i _ => (intOf i + 1).toNat)
  case atStart => exact ⟨j, us, _, by omega, by omega, rfl, hu4, Lib.hid (by rw [Hul.out]), huw, hq1, Lib.hid (by simp), wds_replicate _, hv4, HKS, hb4⟩
  case round =>
    obtain ⟨i', xs, qs, hi, hij, rfl, hx1, hxl, hxw, hqq, hql, hqw, hv5, hks, hbw⟩ := hrel
    clear hu4 hq1 hv4 hb4
    by_cases h0 : i' < 0
    · have hks0 : Hid (Ks (N * P) V (k + 2) xs qs 0) := Lib.hid (by have := hks.out; rwa [show (i' + 1).toNat = 0 by omega] at this)
      have hko := hks0.out.out
      have HR : Hid (val xs / 2 ^ s = N % M ∧ val qs = N / M) := Lib.hid (by
        rw [HV.out, Nat.mul_mod_mul_right, Nat.mul_div_mul_right _ _ HP.out] at hko
        rw [hko.1, ← HS1.out.2.2]
        exact ⟨shr_back HP.out, hko.2⟩)
      clear hko
      go_wp2_with fail
      refine (trim_any _ qs _ _ _ _ (hqq.rd hqw) hql.out (Nat.le_refl _) (by omega)).mono ?_
      rintro e w7 ⟨rfl, rfl⟩
      rw [HR.out.2]
      have hqd := (hqq.rd hqw).digs
      have hqn := digs_len_le hqw
      rw [HR.out.2] at hqd hqn
      rw [hql.out] at hqn
      have HQN := Lib.hid hqn
      clear hqn
      go_wp2_with fail
      refine (shiftDown_any _ xs (k + 2 + j + 1) _ _ s 0 s P (2 ^ (32 - s)) _ (hx1.rd hxw) (Nat.le_refl _) hxl.out (by omega) (by omega) HS1.out.1 HS1.out.2.1 HS1.out.2.2 rfl).mono ?_
      rintro e w8 ⟨A8, c8, rfl, hc8, hr8, hb8⟩
      rw [HR.out.1] at hr8 hc8 ⊢
      go_wp2_with fail
      go_ret2
      exact ⟨_, _, A8, c8, rfl, HQN.out, hc8, (hqd.below hb8).more hb8.size, hr8, below_next hbw hb8 (Nat.le_refl _)⟩
    · obtain ⟨i, rfl⟩ := Int.eq_ofNat_of_zero_le (show 0 ≤ i' by omega)
      have hks1 : Hid (Ks (N * P) V (k + 2) xs qs (i + 1)) := Lib.hid (by have := hks.out; rwa [show ((i : Int) + 1).toNat = i + 1 by omega] at this)
      clear hks
      go_wp2_with fail
      rw [show i + (k + 2) + 1 - i = k + 3 by omega]
      go_wp2_with fail
      have HTV : Hid ((digs V).length = k + 2 ∧ 2147483648 ≤ dg (digs V) (k + 1)) := Lib.hid (by rw [HV.out]; exact HT.out)
      have hxi : i < xs.length := by rw [hxl.out]; omega
      obtain ⟨U, hU1, hU2, hU3, hU4, hU5⟩ := hks1.out.part hxw hxi (lt_of_digs_length (by rw [HTV.out.1]; exact Nat.le_refl _))
      have hVp : 0 < V := by
        rcases Nat.eq_zero_or_pos V with e | e
        · rw [e] at hU3; omega
        · exact e
      have HU := Lib.hid (And.intro hU2 (And.intro hU4 hU5))
      have hqql := hqq.lt
      refine (guess_any _ _ ((xs.drop i).take (k + 2 + 1)) (digs V) k _ _ _ gq _ (hx1.rdAt hxw i (k + 2 + 1) (by rw [hxl.out]; omega)) hv5 (by rw [List.length_take, List.length_drop, hxl.out]; omega) HTV.out.1 (by omega) HTV.out.2 (by rw [hU1, val_digs]; exact hU3)).mono ?_
      rintro e w5 ⟨x, q, rfl, rfl, hx, hxa, hxb⟩
      rw [hU1, val_digs] at hxa hxb
      have HX := Lib.hid (And.intro hxa hxb)
      clear hU1 hU2 hU3 hU4 hU5 hxa hxb
      go_wp2_with fail
      refine (takeTimes_any w.heap.size i x (k + 2) U (some ⟨gv, 0, none⟩) xs (digs V) _ _ gq _ (hx1.drewN q) hxw (hv5.drewN q) (by simp; omega) (fun _ a ha => by injection ha with e; subst e; simp; omega) HTV.out.1 (by omega) (by rw [hxl.out]; omega) (by rw [hxl.out]; omega) (by omega) hx HU.out.2.1 (by rw [val_digs]; exact hVp) (by rw [val_digs]; exact HX.out.1) (by rw [val_digs]; exact HX.out.2)).mono ?_
      rintro e w6 ⟨ds, rfl, hb6, hdl, hdw, hsame, hval, hg6, hsz6⟩
      rw [val_digs] at hval ⊢
      obtain ⟨Q, hQ⟩ : ∃ Q, Q = U / V := ⟨_, rfl⟩
      have hQl : Q ≤ 4294967295 := by rw [hQ]; exact Nat.le_trans HX.out.1 hx
      rw [← hQ] at hval ⊢
      have hq6 := hqq.of_same (hg6.block gq hqql (by intro e; injection e with e; omega))
      have hv6 := hv5.grown ((show wr.grownBy (wr.drewN q) (some w.heap.size) from ⟨rfl, rfl, rfl, Nat.le_refl _, fun _ _ _ => rfl⟩).trans hg6) (by omega) (fun _ a ha => by injection ha with e; subst e; simp; omega)
      have hbw6 := below_of_grown (hbw.trans (below_drewN' _ _ _)) hg6 (by simp; exact hbw.size) (Nat.le_refl _)
      have HD := Lib.hid (And.intro hdl (And.intro hsame (And.intro hval (And.intro hQ hsz6))))
      have hqc := hq6.cell (i := i) (by rw [hql.out]; omega)
      have hqf := hq6.frozen i
      have HB := Lib.hid hbw6
      clear hdl hsame hval hQ hsz6 hg6 hbw6
      go_wp2_with fail
      go_roundw
      case rel =>
        refine ⟨(i : Int) - 1, ds, qs.set i Q, by omega, by omega, rfl, hb6.far (p := ⟨gq, i, none⟩) (by simp; omega) _, Lib.hid (by rw [HD.out.1]; exact hxl.out), hdw, hq6.set_ Q (by rw [hql.out]; omega), Lib.hid (by rw [List.length_set]; exact hql.out), wds_set hqw _ (by omega), hv6.setCell (p := ⟨gq, i, none⟩) (Nat.le_refl _) _, Lib.hid ?_, HB.out.setCell (p := ⟨gq, i, none⟩) (by simp; omega) _⟩
        rw [show ((i : Int) - 1 + 1).toNat = i by omega, HD.out.2.2.2.1]
        refine hks1.out.next hxi (by rw [hql.out]; omega) HD.out.1 HU.out.1 hVp ?_ HU.out.2.2 HD.out.2.1 (by rw [← HD.out.2.2.2.1]; exact HD.out.2.2.1)
        have := lo_lt hxw (i + (k + 2) + 1)
        rw [HU.out.2.2]; exact this
      case measure => simp [intOf]
theorem longOK : LongOK := by
  intro A A' N M n m c c' B B' w h h' hB hB' hn hm hl hl' h2 hMN
  obtain ⟨k, rfl⟩ : ∃ k, m = k + 2 := ⟨m - 2, by omega⟩
  have hnm : k + 2 ≤ n := by
    rcases Nat.lt_or_ge n (k + 2) with h1 | h1
    · have := lt_pw_of_length (wds_digs N) (trm_digs M) (by rw [hn, hm]; exact h1)
      rw [val_digs, val_digs] at this
      omega
    · exact h1
  exact long_any A A' N M n k c c' B B' w h h' hB hB' hn hm hl hnm
end Go.Proofs.YtobffffcihlkbaaDoor
