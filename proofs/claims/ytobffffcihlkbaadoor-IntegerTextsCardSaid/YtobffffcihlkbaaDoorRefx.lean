/- Walk of the reference's Text. -/
import Derived.Test.YtobffffcihlkbaaDoorReft
import Derived.Test.YtobffffcihlkbaaDoorSay
import Derived.Deep.LoopGhost
namespace Lw
open Go
/-- The decimal digits of a number, none for 0. -/
def DT (n : Nat) : List UInt8 := if n = 0 then [] else Lib.decDigits n
theorem DT_pos {n : Nat} (h : n ≠ 0) : DT n = Lib.decDigits n := if_neg h
theorem DT_step {M : Nat} (h : M ≠ 0) : DT M = DT (M / 10) ++ [UInt8.ofNat (48 + M % 10)] := by
  unfold DT
  rw [if_neg h]
  by_cases h1 : M < 10
  · rw [if_pos (by omega), Lib.decDigits, dif_pos h1, Nat.mod_eq_of_lt h1]; rfl
  · rw [if_neg (by omega), Lib.decDigits, dif_neg h1]
/-- After k of nine digits: what is left, and what stands already. -/
def Tk (N k r : Nat) (S : List UInt8) (Z : Nat) : Prop := DT (N * 10 ^ (9 - k) + r) ++ S = DT Z ∧ r < 10 ^ (9 - k)
theorem tk_start {N : Nat} {S : List UInt8} {Z : Nat} (h : DT N ++ S = DT Z) : Tk (N / 1000000000) 0 (N % 1000000000) S Z := by
  refine ⟨?_, ?_⟩
  · rw [show N / 1000000000 * 10 ^ (9 - 0) + N % 1000000000 = N by simp only [Nat.sub_zero, Nat.reducePow]; omega]; exact h
  · simp only [Nat.sub_zero, Nat.reducePow]; omega
theorem tk_step {N k r : Nat} {S : List UInt8} {Z : Nat} (h : Tk N k r S Z) (hk : k < 9) (h0 : r ≠ 0 ∨ N ≠ 0) : Tk N (k + 1) (r / 10) (UInt8.ofNat (48 + r % 10) :: S) Z := by
  have hp : 10 ^ (9 - k) = 10 ^ (9 - (k + 1)) * 10 := by rw [← Nat.pow_succ]; congr 1; omega
  have h1 : 0 < 10 ^ (9 - (k + 1)) := Nat.pow_pos (by omega)
  obtain ⟨h2, h3⟩ := h
  unfold Tk
  rw [hp] at h3 h2
  generalize 10 ^ (9 - (k + 1)) = P at *
  have hN : N * (P * 10) = N * P * 10 := (Nat.mul_assoc _ _ _).symm
  rw [hN] at h2
  have hne : N * P * 10 + r ≠ 0 := by
    rcases h0 with h0 | h0
    · omega
    · have : 0 < N * P := Nat.mul_pos (by omega) h1
      omega
  rw [DT_step hne, show (N * P * 10 + r) / 10 = N * P + r / 10 by omega, show (N * P * 10 + r) % 10 = r % 10 by omega, List.append_assoc, List.singleton_append] at h2
  refine ⟨h2, ?_⟩
  omega
theorem tk_end {N k r : Nat} {S : List UInt8} {Z : Nat} (h : Tk N k r S Z) (hk : k ≤ 9) (h0 : k = 9 ∨ (r = 0 ∧ N = 0)) : DT N ++ S = DT Z := by
  obtain ⟨h2, h3⟩ := h
  rcases h0 with rfl | ⟨rfl, rfl⟩
  · have : r = 0 := by simpa using h3
    subst this
    simpa using h2
  · simpa using h2
theorem ten_at {d : Nat} (h : d < 10) : (ByteArray.mk #[48, 49, 50, 51, 52, 53, 54, 55, 56, 57]).extract d (d + 1) = ⟨[UInt8.ofNat (48 + d)].toArray⟩ := by
  have : d = 0 ∨ d = 1 ∨ d = 2 ∨ d = 3 ∨ d = 4 ∨ d = 5 ∨ d = 6 ∨ d = 7 ∨ d = 8 ∨ d = 9 := by omega
  rcases this with h | h | h | h | h | h | h | h | h | h <;> subst h <;> rfl
theorem dt_len (n z : Nat) (h : z < pw n) : (DT z).length ≤ 10 * n + 1 := by
  unfold DT
  split
  · simp
  · have h1 : pw n ≤ 10 ^ (10 * n) := by
      rw [Nat.pow_mul]; exact Nat.pow_le_pow_left (by decide) n
    refine dec_len (10 * n) z (Nat.lt_of_lt_of_le h (Nat.le_trans h1 (Nat.pow_le_pow_right (by omega) (by omega))))
theorem bytes_cons (b : UInt8) (S : List UInt8) : (ByteArray.mk [b].toArray ++ ByteArray.mk S.toArray) = ⟨(b :: S).toArray⟩ := by
  apply ByteArray.ext
  rw [ByteArray.data_append]
  simp
end Lw
namespace Go.Proofs.YtobffffcihlkbaaDoor
open Go Go.RowKit Lw
set_option maxRecDepth 100000 in
set_option maxHeartbeats 6400000 in
theorem refText_any (s : Bool) (A : Option Addr) (ns : List Nat) (n c B : Nat) (w : World) (h : Rd w B A ns) (hB : B ≤ w.heap.size) (hn : ns.length = n) (hl : n ≤ 10000) (hc : n ≤ c) :
    Calls Tryd.prog 18 #[.agg #[.bool s, .slice A n c]] w fun e w' => e = .returned (.string ⟨(Lib.itoa (zv s ns)).toArray⟩) ∧ Below w.heap.size w w' := by
  have hlz := zv_len (s := s) h.wds
  rw [hn] at hlz
  have hk := fun W hR hB' => mag_any s A ns n c B W hR hB' hn (by omega) hc
  have hk' := fun W hR hB' => refneg_any s A ns n c B W hR hB' hn (by omega)
  generalize zv s ns = z at *
  have Hk := Lib.hid hk
  have Hk' := Lib.hid hk'
  have HL : Hid ((DT z.natAbs).length ≤ 10 * n + 1) := Lib.hid (dt_len n _ (lt_of_digs_length hlz))
  clear hk hk' hn
  go_enter Tryd.func18, Tryd.ntmps18
  go_wp2_with fail
  refine (Hk.out _ (h.alloc hB _) (by simp; omega)).mono ?_
  rintro e w1 ⟨A1, c1, rfl, hc1, hr1, hb1⟩
  obtain ⟨t1, hs1, hb2⟩ := box1 hb1
  obtain ⟨c10, c11, f10, f11⟩ := t1.facts
  obtain ⟨n1, hn1⟩ : ∃ n1, n1 = (mg z).length := ⟨_, rfl⟩
  rw [← hn1] at hlz hc1 ⊢
  have Hn1 := Lib.hid hn1
  clear hn1
  have hs1' := hs1
  by_cases h0 : n1 = 0
  · have HZ : Hid (Lib.itoa z = [48]) := Lib.hid (by
      have e := mg_nil_iff.1 (by rw [← Hn1.out]; exact h0)
      rw [e, itoa_pos rfl]
      rw [show (0 : Int).natAbs = 0 from rfl, Lib.decDigits, dif_pos (by omega)]; rfl)
    subst h0
    go_wp2_with fail
    go_ret
    rw [HZ.out]
    exact ⟨rfl, hb2⟩
  · have hbq : ((n1 : Int) == 0) = false := by rw [beq_eq_false_iff_ne]; omega
    go_wp2_with fail
    go_loopg [3, 4] z.natAbs (fun M mv sv wr => ∃ (A' : Option Addr) (n' c' : Nat) (S : List UInt8) (T : ByteArray), mv = .slice A' n' c' ∧ n' ≤ c' ∧ n' ≤ n ∧ Hid ((digs M).length = n') ∧ Rd wr wr.heap.size A' (digs M) ∧ sv = .string T ∧ Hid (T = ⟨S.toArray⟩) ∧ T.size ≤ 100001 ∧ Hid (DT M ++ S = DT z.natAbs) ∧ Below w1.heap.size w1 wr)
    case atStart => exact ⟨A1, n1, c1, [], ByteArray.empty, rfl, hc1, hlz, Lib.hid Hn1.out.symm, hr1.more (by omega), rfl, Lib.hid rfl, by simp, Lib.hid (List.append_nil _), Below.refl _ _⟩
    case round =>
      obtain ⟨A', n', c', S, T, rfl, hc', hnn, hlen, hr, rfl, hTS, hTl, hv, hbw1⟩ := hrel
      have hbw := below_next hb2 hbw1 (by omega)
      have hszb := hbw.size
      by_cases hn0 : n' = 0
      · have hz0 : Hid (z.natAbs ≠ 0) := Lib.hid (fun e => h0 (by rw [Hn1.out]; unfold mg; rw [e]; rfl))
        have HT : Hid (T = ⟨(Lib.decDigits z.natAbs).toArray⟩) := Lib.hid (by
          have e0 : gk = 0 := digs_eq_nil.1 (List.eq_nil_of_length_eq_zero (by rw [hlen.out]; exact hn0))
          have e1 := hv.out
          rw [e0, DT_pos hz0.out] at e1
          rw [hTS.out, ← e1]; rfl)
        subst hn0
        clear hlen hr hTS hv
        obtain ⟨c10, c11, f10, f11⟩ := (t1.next hbw1).facts
        go_wp2_with fail
        refine (Hk'.out _ (h.below (hbw.mono hB)) (by omega)).mono ?_
        rintro e w2 ⟨rfl, hb3⟩
        have hb4 := below_next hbw hb3 (Nat.le_refl _)
        cases hsg : sg z
        · have HI := Lib.hid (itoa_pos hsg)
          go_wp2_with fail
          go_ret
          exact ⟨by rw [HT.out, HI.out, List.nil_append]; rfl, hb4⟩
        · have HI := Lib.hid (itoa_neg hsg)
          go_wp2_with fail
          go_ret
          exact ⟨by rw [HT.out, HI.out]; exact congrArg (fun b => Ending.returned (Value.string b)) (bytes_cons 45 (Lib.decDigits z.natAbs)), hb4⟩
      · have hQn : (digs (gk / 1000000000)).length ≤ n := by
          have h1 := lt_of_digs_length (Nat.le_of_eq hlen.out)
          have h2 := digs_length_le (n := gk / 1000000000) (k := n') (Nat.lt_of_le_of_lt (Nat.div_le_self _ _) h1)
          omega
        have hM0 : gk ≠ 0 := fun e => hn0 (by rw [← hlen.out, e]; rfl)
        have hQlt : Hid (gk / 1000000000 < gk) := Lib.hid (by omega)
        clear hM0
        go_wp2_with (at_make; refine wpList_make32 _ rfl _ _ _ rfl 46 Tryd.underlying22 info32 _ _ _ _ n' rfl rfl (by omega) (by omega) (by omega) ?_; intro w3 hblk hbel hsz)
        go_loopw [5, 7] (fun rv iv wi => ∃ (i' : Int) (r : Nat) (ds : List Nat), -1 ≤ i' ∧ i' < n' ∧ r ≤ 999999999 ∧ iv = .int .i64 i' ∧ rv = .int .u64 r ∧ Blk wi wr.heap.size 46 ds ∧ Hid (ds.length = n') ∧ Wds ds ∧ Hid (val (ds.drop (i' + 1).toNat) = val ((digs gk).drop (i' + 1).toNat) / 1000000000 ∧ r = val ((digs gk).drop (i' + 1).toNat) % 1000000000) ∧ Below wr.heap.size wr wi) (fun _ i _ => (intOf i + 1).toNat)
        case atStart => exact ⟨(n' : Int) - 1, 0, _, by omega, by omega, by omega, rfl, rfl, hblk, Lib.hid (by simp), wds_replicate _, Lib.hid (by rw [show ((n' : Int) - 1 + 1).toNat = n' by omega, List.drop_of_length_le (by simp), List.drop_of_length_le (by rw [hlen.out]; exact Nat.le_refl _)]; simp [val]), hbel⟩
        case round =>
          obtain ⟨i', r, ds, hi, hin, hrx, rfl, rfl, hb5, hdl, hdw, hvv, hbi⟩ := hrel
          clear hblk hbel hsz
          have hszi := hbi.size
          have hri := hr.below hbi
          by_cases hi0 : i' < 0
          · have HV : Hid (val ds = gk / 1000000000 ∧ r = gk % 1000000000) := Lib.hid (by have := hvv.out; rwa [show (i' + 1).toNat = 0 by omega, List.drop_zero, List.drop_zero, val_digs] at this)
            have HK : Hid (Tk (gk / 1000000000) 0 r S z.natAbs) := Lib.hid (by rw [HV.out.2]; exact tk_start hv.out)
            clear hvv hri hv
            go_wp2_with fail
            refine (reftrim_any _ ds n' n' _ _ (hb5.rd hdw) (Nat.le_refl _) hdl.out (by omega)).mono ?_
            rintro e w4 ⟨g4, c4, rfl, hc4, hg4, hblk4, hb6⟩
            rw [HV.out.1] at hc4 hblk4 ⊢
            have hbw4 := below_next (below_next hbw1 hbi (by omega)) hb6 (by omega)
            have hr4 := hblk4.rd (wds_digs _)
            obtain ⟨Q, hQ⟩ : ∃ Q, Q = gk / 1000000000 := ⟨_, rfl⟩
            rw [← hQ] at hc4 hr4 HK hQn hQlt ⊢
            obtain ⟨n4, hn4⟩ : ∃ n4, n4 = (digs Q).length := ⟨_, rfl⟩
            rw [← hn4] at hc4 hQn ⊢
            have Hn4 := Lib.hid hn4
            have HQ := Lib.hid hQ
            clear hQ hn4 hblk4 hb5 hr hb6
            go_wp2_with fail
            go_loopw [4, 5, 8] (fun sv rv kv wi2 => ∃ (k2 r2 : Nat) (S2 : List UInt8) (T2 : ByteArray), k2 ≤ 9 ∧ r2 ≤ 999999999 ∧ kv = .int .i64 k2 ∧ rv = .int .u64 r2 ∧ sv = .string T2 ∧ Hid (T2 = ⟨S2.toArray⟩) ∧ Hid (Tk Q k2 r2 S2 z.natAbs) ∧ wi2 = w4) (fun _ _ k _ => 9 - (intOf k).toNat)
            case atStart => exact ⟨0, r, S, T, by omega, hrx, rfl, rfl, rfl, hTS, HK, rfl⟩
            case round =>
              obtain ⟨k2, r2, S2, T2, hk2, hr2, rfl, rfl, rfl, hT2, hK2, rfl⟩ := hrel
              have hTl2 : T2.size ≤ 100001 := by
                have h1 := congrArg List.length hK2.out.1
                rw [List.length_append] at h1
                have h2 := HL.out
                rw [hT2.out]
                simp only [ByteArray.size, List.size_toArray]
                omega
              obtain ⟨d, hd⟩ : ∃ d, d = r2 % 10 := ⟨_, rfl⟩
              have hd10 : d < 10 := by omega
              have hdi : (r2 : Int) % 10 = (d : Int) := by omega
              have HD := Lib.hid hd
              clear hd
              by_cases hk9 : k2 < 9
              · by_cases hq0 : r2 = 0 ∧ n4 = 0
                · have HE : Hid (DT Q ++ S2 = DT z.natAbs) := Lib.hid (tk_end hK2.out hk2 (.inr ⟨hq0.1, digs_eq_nil.1 (List.eq_nil_of_length_eq_zero (by rw [← Hn4.out]; exact hq0.2))⟩))
                  obtain ⟨e1, e2⟩ := hq0
                  go_wp2_with fail
                  go_roundg Q
                  case measure => exact hQlt.out
                  case rel => exact ⟨_, 0, c4, S2, T2, rfl, by omega, by omega, Lib.hid (by rw [← Hn4.out]; exact e2), hr4, rfl, hT2, hTl2, HE, hbw4⟩
                · have HN : Hid (Tk Q (k2 + 1) (r2 / 10) (UInt8.ofNat (48 + d) :: S2) z.natAbs) := Lib.hid (by
                    rw [HD.out]
                    refine tk_step hK2.out hk9 ?_
                    rcases Classical.em (r2 = 0) with e | e
                    · right
                      intro e2
                      exact hq0 ⟨e, by rw [Hn4.out, e2]; rfl⟩
                    · exact .inl e)
                  by_cases hr0 : r2 = 0
                  · have hn40 : 0 < n4 := by omega
                    clear hq0
                    obtain rfl := hr0
                    obtain rfl : d = 0 := by omega
                    have HT2 : Hid ((ByteArray.mk #[48, 49, 50, 51, 52, 53, 54, 55, 56, 57]).extract 0 1 ++ T2 = ⟨(UInt8.ofNat (48 + 0) :: S2).toArray⟩) := Lib.hid (by rw [show (1 : Nat) = 0 + 1 from rfl, ten_at hd10, hT2.out]; exact bytes_cons _ _)
                    go_wp2_with fail
                    go_roundw
                    case rel => exact ⟨k2 + 1, 0, _, _, by omega, by omega, by go_num, by go_num, rfl, HT2, HN, trivial⟩
                    case measure => simp [intOf]; omega
                  · have hr1 : 0 < r2 := by omega
                    clear hq0
                    have HT2 : Hid ((ByteArray.mk #[48, 49, 50, 51, 52, 53, 54, 55, 56, 57]).extract d (d + 1) ++ T2 = ⟨(UInt8.ofNat (48 + d) :: S2).toArray⟩) := Lib.hid (by rw [ten_at hd10, hT2.out]; exact bytes_cons _ _)
                    go_wp2_with fail
                    go_roundw
                    case rel => exact ⟨k2 + 1, r2 / 10, _, _, by omega, by omega, by go_num, by go_num, rfl, HT2, HN, trivial⟩
                    case measure => simp [intOf]; omega
              · have HE : Hid (DT Q ++ S2 = DT z.natAbs) := Lib.hid (tk_end hK2.out hk2 (.inl (by omega)))
                go_wp2_with fail
                go_roundg Q
                case measure => exact hQlt.out
                case rel => exact ⟨_, n4, c4, S2, T2, rfl, hc4, hQn, Lib.hid Hn4.out.symm, hr4, rfl, hT2, hTl2, HE, hbw4⟩
          · obtain ⟨j, rfl⟩ := Int.eq_ofNat_of_zero_le (show 0 ≤ i' by omega)
            obtain ⟨b, off, rfl, hb', hcell, hlt⟩ := hri.at_ (k := j) (by rw [hlen.out]; omega)
            have hcc := hb5.cell (i := j) (by rw [hdl.out]; omega)
            have hfr := hb5.frozen j
            have HSET := Lib.hid (fun v => hb5.set_ (i := j) v (by rw [hdl.out]; omega))
            have hst := divw_step (x := 1000000000) (r := r) (d := dg (digs gk) j) (H := val ((digs gk).drop (j + 1))) (by omega) (by have := hvv.out.2; rwa [show ((j : Int) + 1).toNat = j + 1 by omega] at this) hlt
            have HDD := Lib.hid (val_drop (digs gk) (k := j) (by rw [hlen.out]; omega))
            obtain ⟨d, hd⟩ : ∃ d, d = dg (digs gk) j := ⟨_, rfl⟩
            rw [← hd] at hcell hlt hst HDD
            obtain ⟨D, hD⟩ : ∃ D, D = d + 4294967296 * r := ⟨_, rfl⟩
            rw [← hD] at hst
            have hO : bits .or .u64 ((r : Int) * 4294967296) (d : Int) = (D : Int) := by rw [hD]; exact or_words (by omega) hlt
            obtain ⟨q, hq⟩ : ∃ q, q = D / 1000000000 := ⟨_, rfl⟩
            obtain ⟨r', hr'⟩ : ∃ r', r' = D % 1000000000 := ⟨_, rfl⟩
            rw [← hq, ← hr'] at hst
            have hql : q < 4294967296 := hst.1
            have hDl : D ≤ 18446744073709551615 := by omega
            have hqi : (D : Int) / 1000000000 = (q : Int) := by omega
            have hri' : (D : Int) % 1000000000 = (r' : Int) := by omega
            have hrl' : r' ≤ 999999999 := by omega
            have HST := Lib.hid hst.2
            clear hst hd hD hq hr'
            go_wp2_with fail
            go_roundw
            case rel =>
              refine ⟨(j : Int) - 1, r', ds.set j q, by omega, by omega, hrl', by go_num, by go_num, HSET.out q, Lib.hid (by rw [List.length_set]; exact hdl.out), wds_set hdw _ hql, Lib.hid ?_, hbi.setCell (Nat.le_refl _) _⟩
              have hv1 := hvv.out
              rw [show ((j : Int) + 1).toNat = j + 1 by omega] at hv1
              rw [show ((j : Int) - 1 + 1).toNat = j by omega, val_drop (ds.set j q) (k := j) (by rw [List.length_set, hdl.out]; omega), dg_set (l := ds) (k := j) _ (by rw [hdl.out]; omega), if_pos rfl, drop_set_lt _ (by omega), hv1.1, HDD.out]
              exact HST.out
            case measure => simp [intOf]
end Go.Proofs.YtobffffcihlkbaaDoor
