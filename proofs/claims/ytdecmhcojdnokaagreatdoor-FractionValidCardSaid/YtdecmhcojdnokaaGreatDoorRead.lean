/- Walks of integer: appendTimes, readDigits, plain. -/
import Derived.Test.YtdecmhcojdnokaaGreatDoorText
import Derived.Test.YtdecmhcojdnokaaGreatDoorGcdsmall
namespace Lw
open Go
/-- The number of decimal digits, from the front. -/
def dval (l : List UInt8) : Nat := l.foldl (fun v b => v * 10 + (b.toNat - 48)) 0
def Digs (l : List UInt8) : Prop := ∀ b ∈ l, 48 ≤ b.toNat ∧ b.toNat ≤ 57
theorem dval_nil : dval [] = 0 := rfl
theorem dval_snoc (l : List UInt8) (b : UInt8) : dval (l ++ [b]) = dval l * 10 + (b.toNat - 48) := by simp [dval]
theorem foldl_from (l : List UInt8) (v : Nat) : l.foldl (fun v b => v * 10 + (b.toNat - 48)) v = v * 10 ^ l.length + dval l := by
  induction l generalizing v with
  | nil => simp [dval]
  | cons b l ih =>
    have h := ih (0 * 10 + (b.toNat - 48))
    rw [List.foldl_cons, ih, List.length_cons, Nat.pow_succ]
    unfold dval
    rw [List.foldl_cons, h]
    grind
theorem dval_append (l m : List UInt8) : dval (l ++ m) = dval l * 10 ^ m.length + dval m := by
  unfold dval; rw [List.foldl_append, foldl_from]; rfl
theorem dval_take {l : List UInt8} {k : Nat} (h : k < l.length) : dval (l.take (k + 1)) = dval (l.take k) * 10 + (l[k].toNat - 48) := by
  rw [List.take_succ_eq_append_getElem h, dval_snoc]
theorem dval_lt {l : List UInt8} (h : Digs l) (k : Nat) (hk : k ≤ l.length) : dval (l.take k) < 10 ^ k := by
  induction k with
  | zero => simp [dval]
  | succ k ih =>
    have h1 := ih (by omega)
    have h2 := h l[k] (List.getElem_mem _)
    rw [dval_take (by omega), Nat.pow_succ]
    omega
theorem digs_take {l : List UInt8} (h : Digs l) (k : Nat) : Digs (l.take k) := fun b hb => h b (List.mem_of_mem_take hb)
theorem digs_drop {l : List UInt8} (h : Digs l) (k : Nat) : Digs (l.drop k) := fun b hb => h b (List.mem_of_mem_drop hb)
theorem dec_step2 {l : List UInt8} {k G U b : Nat} (hk : k < l.length) (hG : G = dval (l.take k)) (hU : U = 10 ^ k) (hb : l[k].toNat = b + 48) : G * 10 + b = dval (l.take (k + 1)) ∧ U * 10 = 10 ^ (k + 1) := by
  rw [dval_take hk, ← hG, hb, Nat.pow_succ, ← hU]
  omega
theorem trm_of_val {l : List Nat} (w : Wds l) (h : pw (l.length - 1) ≤ val l) : Trm l := by
  rcases Nat.eq_zero_or_pos l.length with h0 | h0
  · rw [List.eq_nil_of_length_eq_zero h0]; exact trm_nil
  · refine trm_of_last fun e => ?_
    have h1 := lo_succ l (l.length - 1)
    rw [show l.length - 1 + 1 = l.length by omega, lo_all (Nat.le_refl _), e] at h1
    have := lo_lt w (l.length - 1)
    omega
theorem trm_times {cs ds : List Nat} {U G : Nat} (wd : Wds ds) (hl : ds.length = cs.length) (hU : 0 < U) (hv : val ds = val cs * U + G) (t : Trm cs) : Trm ds := by
  rcases Nat.eq_zero_or_pos cs.length with h0 | h0
  · rw [List.eq_nil_of_length_eq_zero (hl.trans h0)]; exact trm_nil
  · refine trm_of_val wd ?_
    have h1 := pw_le_val t (by intro e; rw [e] at h0; simp at h0)
    rw [hl, hv]
    have : val cs * 1 ≤ val cs * U := Nat.mul_le_mul_left _ hU
    omega
theorem trm_snoc (l : List Nat) {x : Nat} (h : x ≠ 0) : Trm (l ++ [x]) := by
  intro y hy
  simp at hy
  omega
theorem times_step {cs ds : List Nat} {k C C' R G U : Nat} (hk : k < ds.length) (hv : lo ds k + pw k * C = lo cs k * U + G) (_hd : dg ds k = dg cs k) (hD : C + dg cs k * U = C' * 4294967296 + R) :
    lo (ds.set k R) (k + 1) + pw (k + 1) * C' = lo cs (k + 1) * U + G := by
  rw [lo_put _ hk, lo_succ, pw_succ]
  have h : pw k * (C + dg cs k * U) = pw k * (C' * 4294967296 + R) := by rw [hD]
  grind
end Lw
namespace Go.Proofs.YtdecmhcojdnokaaGreatDoor
open Go Go.RowKit Lw
set_option maxRecDepth 100000 in
set_option maxHeartbeats 3200000 in
theorem appendDec_any (Bt : Nat) (l : List UInt8) (v : Value) (n : Nat) (cs : List Nat) (w : World) (hown : w.ownsRow Bt 81 1 v n (arr cs)) (hcw : Wds cs) (hBt : Bt ≤ w.heap.size) (hn : n ≤ 1048576) (hd : Digs l) (hl : l.length ≤ 9) :
    Calls Tryz.prog 174 #[v, .string ⟨l.toArray⟩] w fun e w' => ∃ v' n' ds, e = .returned v' ∧ w'.ownsRow Bt 81 1 v' n' (arr ds) ∧ Wds ds ∧ n' ≤ n + 1 ∧ val ds = val cs * 10 ^ l.length + dval l ∧ (Trm cs → Trm ds) ∧ Below Bt w w' := by
  obtain ⟨S, hS⟩ : ∃ S : ByteArray, S = ⟨l.toArray⟩ := ⟨_, rfl⟩
  have hsz : S.size = l.length := by rw [hS]; simp [ByteArray.size]
  have hat : ∀ k (h : k < S.size), (S[k]'h).toNat = (l[k]'(by omega)).toNat := by intro k h; subst hS; rfl
  obtain ⟨A, c, rfl⟩ : ∃ A c, v = .slice A n c := by
    rcases hown.2 with ⟨rfl, rfl⟩ | ⟨g, cap, cur, rfl, _⟩
    · exact ⟨_, _, rfl⟩
    · exact ⟨_, _, rfl⟩
  rw [← hS]
  have HAT := Lib.hid hat
  have HD := Lib.hid hd
  clear hS hat hd
  go_enter Tryz.func174, Tryz.ntmps174
  go_wp2_with fail
  go_loopw [5, 6, 13] (fun gv uv iv wr => ∃ k G U : Nat, k ≤ l.length ∧ iv = .int .i64 k ∧ gv = .int .u64 G ∧ uv = .int .u64 U ∧ G < U ∧ U ≤ 1000000000 ∧ Hid (G = dval (l.take k) ∧ U = 10 ^ k) ∧ wr = w) (fun _ _ i _ => l.length - (intOf i).toNat)
  case atStart => exact ⟨0, 0, 1, Nat.zero_le _, rfl, rfl, rfl, by omega, by omega, Lib.hid ⟨rfl, rfl⟩, rfl⟩
  case round =>
    obtain ⟨k, G, U, hk, rfl, rfl, rfl, hGU, hU, hv, rfl⟩ := hrel
    by_cases hkl : k < l.length
    · have hks : k < S.size := by omega
      have hb := HD.out (l[k]'hkl) (List.getElem_mem _)
      obtain ⟨b, hbv⟩ : ∃ b, (l[k]'hkl).toNat = b + 48 := ⟨(l[k]'hkl).toNat - 48, by omega⟩
      have hb9 : b ≤ 9 := by omega
      have hsk : ((S[k]'hks).toNat : Int) = (b : Int) + 48 := by rw [HAT.out k hks, hbv]; omega
      have HST := Lib.hid (dec_step2 hkl hv.out.1 hv.out.2 hbv)
      have hU1 : Hid (U * 10 ≤ 1000000000) := Lib.hid (by rw [HST.out.2]; exact Nat.le_trans (Nat.pow_le_pow_right (by omega) (show k + 1 ≤ 9 by omega)) (by decide))
      clear hb hbv
      go_wp2_with fail
      go_roundw
      case rel => exact ⟨k + 1, G * 10 + b, U * 10, by omega, by go_num, by go_num, by go_num, by omega, hU1.out, Lib.hid HST.out, trivial⟩
      case measure => simp [intOf]; omega
    · obtain rfl : k = l.length := by omega
      have HV : Hid (G = dval l ∧ U = 10 ^ l.length) := Lib.hid (by have := hv.out; rwa [List.take_length] at this)
      clear hv
      go_wp2_with fail
      go_loopw [8, 30] (fun cv iv wr' => ∃ (k C : Nat) (ds : List Nat), k ≤ n ∧ C ≤ 1000000000 ∧ iv = .int .i64 k ∧ cv = .int .u64 C ∧ wr'.ownsRow Bt 81 1 (.slice A n c) n (arr ds) ∧ Wds ds ∧ Hid (ds.length = n) ∧
          Hid (∀ j, k ≤ j → dg ds j = dg cs j) ∧ Hid (lo ds k + pw k * C = lo cs k * U + G) ∧ Below Bt wr wr') (fun _ i _ => n - (intOf i).toNat)
      case atStart => exact ⟨0, G, cs, Nat.zero_le _, by omega, rfl, rfl, hown, hcw, Lib.hid (by have := hown.1; rwa [length_arr, Nat.mul_one] at this), Lib.hid (fun _ _ => rfl), Lib.hid (by simp [lo_zero, pw_zero]), Below.refl _ _⟩
      case round =>
        obtain ⟨k, C, ds, hk, hC, rfl, rfl, hown2, hdw, hdl, hsame, hval, hbw⟩ := hrel
        have hszb := hbw.size
        by_cases hkn : k < n
        · obtain ⟨g, rfl, hgB⟩ : ∃ g, A = some ⟨g, 0, none⟩ ∧ Bt ≤ g := by
            rcases hown2.2 with ⟨h1, h2⟩ | ⟨g, cap, cur, h1, h2, _⟩
            · omega
            · simp only [Value.slice.injEq] at h1; exact ⟨g, h1.1, h2⟩
          have hlt := dg_lt hdw k
          have hcc := hown2.cellAt k (by omega)
          rw [arr_get? ds k (by rw [hdl.out]; exact hkn)] at hcc
          have hfr := hown2.frozenAt k
          obtain ⟨x, hx⟩ : ∃ x, x = dg ds k := ⟨_, rfl⟩
          rw [← hx] at hcc hlt
          obtain ⟨P, hP⟩ : ∃ P, P = x * U := ⟨_, rfl⟩
          have hPl : P ≤ 4294967295 * 1000000000 := by rw [hP]; exact Nat.mul_le_mul (by omega) hU
          have hPi : (x : Int) * (U : Int) = (P : Int) := by rw [hP]; simp
          have hPj : (U : Int) * (x : Int) = (P : Int) := by rw [Int.mul_comm]; exact hPi
          obtain ⟨R, hR⟩ : ∃ R, R = (C + P) % 4294967296 := ⟨_, rfl⟩
          obtain ⟨C', hC'⟩ : ∃ C', C' = (C + P) / 4294967296 := ⟨_, rfl⟩
          have HST := Lib.hid (times_step (C' := C') (R := R) (by rw [hdl.out]; exact hkn) hval.out (hsame.out k (Nat.le_refl _)) (by rw [← hsame.out k (Nat.le_refl _), ← hx, ← hP, hR, hC']; omega))
          have hRl : R < 4294967296 := by omega
          have hCl : C' ≤ 1000000000 := by omega
          have hRi : ((C : Int) + (P : Int)) % 4294967296 = (R : Int) := by omega
          have hCi : ((C : Int) + (P : Int)) / 4294967296 = (C' : Int) := by omega
          have hst := hown2.stored k (.int .u32 (R : Int))
          rw [arr_set] at hst
          have HSS := Lib.hid hst
          have hPl2 : P ≤ 4294967295000000000 := by omega
          clear hx hP hR hC' hst hPl
          go_wp2_with fail
          go_roundw
          case rel =>
            refine ⟨k + 1, C', ds.set k R, by omega, hCl, by go_num, by go_num, HSS.out.1, wds_set hdw _ hRl, Lib.hid (by rw [List.length_set]; exact hdl.out), Lib.hid ?_, HST, hbw.setCell hgB _⟩
            intro j hj
            rw [dg_set _ (by rw [hdl.out]; exact hkn), if_neg (by omega)]
            exact hsame.out j (by omega)
          case measure => simp [intOf]; omega
        · obtain rfl : k = n := by omega
          have hkc : cs.length = k := by have := hown.1; rwa [length_arr, Nat.mul_one] at this
          have hv2 := hval.out
          rw [lo_all (by rw [hdl.out]; exact Nat.le_refl _), lo_all (by omega)] at hv2
          have hU0 : 0 < U := by omega
          by_cases h0 : C = 0
          · subst h0
            rw [Nat.mul_zero, Nat.add_zero] at hv2
            have HF : Hid (val ds = val cs * 10 ^ l.length + dval l ∧ (Trm cs → Trm ds)) := Lib.hid ⟨by rw [hv2, HV.out.1, ← HV.out.2], trm_times hdw (by rw [hdl.out, hkc]) hU0 hv2⟩
            clear hv2 hkc
            go_wp2_with fail
            go_ret
            exact ⟨_, k, ds, rfl, hown2, hdw, by omega, HF.out.1, HF.out.2, hbw⟩
          · have HF : Hid (val (ds ++ [C]) = val cs * 10 ^ l.length + dval l ∧ (Trm cs → Trm (ds ++ [C]))) := Lib.hid ⟨by rw [val_snoc, hdl.out, hv2, HV.out.1, ← HV.out.2], fun _ => trm_snoc _ h0⟩
            have hC0 : (0 : Int) < (C : Int) := by omega
            have hrone := (Blk.new wr 81 [C]).rd (by rw [wds_cons]; exact ⟨by omega, wds_nil⟩)
            have hcm : (C : Int) % 4294967296 = (C : Int) := by omega
            clear hv2 hkc
            go_wp2_with (at_builtin; refine wpList_append32 _ rfl _ _ 22 rfl Bt 81 Tryz.underlying22 info32 _ k ds rfl (hown2.alloc _) _ _ [C] 1 1 rfl hrone rfl (by omega) (by simp; omega) ?_; intro v' w4 hown4 hgrow4 hnil)
            have hgrow : (wr.alloc (.cells #[.int .u32 (C : Int)] 81)).grownBy w4 (Value.slice A k c).ownBlock := hgrow4
            have hb5 := (hbw.alloc (by omega) (.cells #[.int .u32 (C : Int)] 81)).grown hgrow (by simp; omega) (fun k hk => (hown2.lt k hk).1)
            clear hgrow4 hnil hgrow hrone
            go_wp2_with fail
            go_ret
            exact ⟨_, k + 1, ds ++ [C], rfl, hown4, wds_append.2 ⟨hdw, by rw [wds_cons]; exact ⟨by omega, wds_nil⟩⟩, by omega, HF.out.1, HF.out.2, hb5⟩
end Go.Proofs.YtdecmhcojdnokaaGreatDoor
/-! Walks of integer: readDigits, plain. -/
namespace Lw
open Go
theorem ext_bytes (a : List UInt8) (i j : Nat) : (ByteArray.mk a.toArray).extract i j = ⟨((a.drop i).take (j - i)).toArray⟩ := by
  apply ByteArray.ext
  rw [ByteArray.data_extract]
  simp
theorem take_more (l : List UInt8) (p m : Nat) : l.take (p + m) = l.take p ++ (l.drop p).take m := by rw [List.take_add]
end Lw
namespace Go.Proofs.YtdecmhcojdnokaaGreatDoor
open Go Go.RowKit Lw
set_option maxRecDepth 100000 in
set_option maxHeartbeats 3200000 in
theorem readDigits_any (l : List UInt8) (w : World) (hd : Digs l) (hl : l.length ≤ 65536) :
    Calls Tryz.prog 147 #[.string ⟨l.toArray⟩] w fun e w' => ∃ v n ds, e = .returned v ∧ w'.ownsRow w.heap.size 81 1 v n (arr ds) ∧ Wds ds ∧ n ≤ l.length ∧ val ds = dval l ∧ Trm ds ∧ Below w.heap.size w w' := by
  obtain ⟨i0, hi0, hz0, hz1, hz2⟩ := info_parts info32
  obtain ⟨S, hS⟩ : ∃ S : ByteArray, S = ⟨l.toArray⟩ := ⟨_, rfl⟩
  have hsz : S.size = l.length := by rw [hS]; simp [ByteArray.size]
  rw [← hS]
  have HSS := Lib.hid hS
  have HD := Lib.hid hd
  clear hS hd
  go_enter Tryz.func147, Tryz.ntmps147
  go_wp2_with (at_make; refine wpList_make_own _ rfl _ _ _ rfl w.heap.size 81 i0 _ 1 Tryz.underlying22 hi0 hz0 hz1 _ _ _ (l.length / 9 + 1) rfl rfl (by omega) (by rw [hz2]; omega) (by unfold maxLen; omega) (Nat.le_refl _) ?_; intro w1 hown hgrow)
  have hbel : Below w.heap.size w w1 := (Below.refl _ _).grown hgrow (Nat.le_refl _) (fun k hk => by cases hk)
  clear hgrow
  go_loopw [0, 3] (fun sv v wr => ∃ (p n : Nat) (T : ByteArray) (ds : List Nat), p ≤ l.length ∧ sv = .string T ∧ T.size = l.length - p ∧ Hid (T = ⟨(l.drop p).toArray⟩) ∧ wr.ownsRow w.heap.size 81 1 v n (arr ds) ∧ Wds ds ∧ n ≤ p ∧
      Hid (val ds = dval (l.take p) ∧ Trm ds) ∧ Below w.heap.size w wr) (fun sv _ _ => match sv with | .string T => T.size | _ => 0)
  case atStart => exact ⟨0, 0, S, [], Nat.zero_le _, rfl, by omega, Lib.hid (by rw [HSS.out]; rfl), hown, wds_nil, Nat.le_refl _, Lib.hid ⟨rfl, trm_nil⟩, hbel⟩
  case round =>
    obtain ⟨p, n, T, ds, hp, rfl, hT, hTT, hown2, hdw, hnp, hv, hbw⟩ := hrel
    clear hown hbel
    have hszb := hbw.size
    by_cases hpl : p < l.length
    · obtain ⟨m, hm⟩ : ∃ m, m = (l.length - p - 1) % 9 + 1 := ⟨_, rfl⟩
      have hm1 : ((l.length : Int) - (p : Int) - 1) % 9 + 1 = (m : Int) := by omega
      have hmle : m ≤ l.length - p := by omega
      have hm9 : m ≤ 9 := by omega
      obtain ⟨r, hr⟩ : ∃ r, r = l.length - p := ⟨_, rfl⟩
      rw [← hr] at hT hmle hm
      have hr0 : 0 < r := by omega
      have hrl : r ≤ 65536 := by omega
      have HX1 : Hid (T.extract 0 ((r - 1) % 9 + 1) = ⟨((l.drop p).take m).toArray⟩) := Lib.hid (by rw [← hm, hTT.out, ext_bytes, Nat.sub_zero, List.drop_zero])
      have HX2 : Hid (T.extract ((r - 1) % 9 + 1) r = ⟨(l.drop (p + m)).toArray⟩) := Lib.hid (by rw [← hm, hTT.out, ext_bytes, List.drop_drop, List.take_of_length_le (by rw [List.length_drop]; omega)])
      have HM := Lib.hid hm
      have HR := Lib.hid hr
      have hlm : ((l.drop p).take m).length = m := by rw [List.length_take, List.length_drop]; omega
      have HLM := Lib.hid hlm
      clear hm hr hm1 hlm
      go_wp2_with fail
      rw [HX1.out]
      refine (appendDec_any w.heap.size ((l.drop p).take m) u3 n ds _ hown2 hdw hszb (by omega) (digs_take (digs_drop HD.out p) m) (by rw [HLM.out]; exact hm9)).mono ?_
      rintro e w2 ⟨v', n', ds', rfl, hown3, hdw3, hn3, hv3, ht3, hb3⟩
      have HV3 := Lib.hid hv3
      have HT3 := Lib.hid ht3
      have hbw3 := hbw.trans hb3
      clear hv3 ht3 hown2 hb3 hbw
      go_wp2_with fail
      have hsz2 : (T.extract ((r - 1) % 9 + 1) r).size = l.length - (p + m) := by rw [HX2.out]; simp [ByteArray.size]
      have hpm : p + m ≤ l.length := by have := HR.out; omega
      have hm0 : 1 ≤ m := by have := HM.out; omega
      go_roundw
      case rel =>
        refine ⟨p + m, n', _, ds', hpm, rfl, hsz2, HX2, hown3, hdw3, by omega, Lib.hid ⟨?_, HT3.out hv.out.2⟩, hbw3⟩
        rw [HV3.out, hv.out.1, take_more, dval_append, HLM.out]
      case measure =>
        show (T.extract ((r - 1) % 9 + 1) r).size < T.size
        have := HR.out
        omega
    · obtain rfl : p = l.length := by omega
      have HV : Hid (val ds = dval l ∧ Trm ds) := Lib.hid (by have := hv.out; rwa [List.take_length] at this)
      have hT0 : T.size = 0 := by omega
      clear hv hT
      go_wp2_with fail
      go_ret
      exact ⟨_, n, ds, rfl, hown2, hdw, hnp, HV.out.1, HV.out.2, hbw⟩
end Go.Proofs.YtdecmhcojdnokaaGreatDoor
/-! Walks of integer: plain, Parse of the text of an integer. -/
namespace Lw
open Go
/-- The digits of a number: some, no zero in front but a single one. -/
def Plain (l : List UInt8) : Prop := 0 < l.length ∧ Digs l ∧ (1 < l.length → ∀ h : 0 < l.length, (l[0]'h).toNat ≠ 48)
theorem digs_dec (n : Nat) : Digs (Lib.decDigits n) := by
  induction n using Nat.strongRecOn with
  | ind n ih =>
    rw [Lib.decDigits]
    by_cases h : n < 10
    · rw [dif_pos h]
      intro b hb
      rw [List.mem_singleton] at hb
      subst hb
      have := digit_cell h
      omega
    · rw [dif_neg h]
      intro b hb
      rw [List.mem_append, List.mem_singleton] at hb
      rcases hb with hb | rfl
      · exact ih (n / 10) (by omega) b hb
      · have := digit_cell (d := n % 10) (by omega)
        omega
theorem dval_dec (n : Nat) : dval (Lib.decDigits n) = n := by
  induction n using Nat.strongRecOn with
  | ind n ih =>
    rw [Lib.decDigits]
    by_cases h : n < 10
    · rw [dif_pos h]
      have := digit_cell h
      simp [dval]
      omega
    · rw [dif_neg h, dval_snoc, ih (n / 10) (by omega)]
      have := digit_cell (d := n % 10) (by omega)
      omega
theorem dec_front (n : Nat) (h0 : n ≠ 0) : ∀ h : 0 < (Lib.decDigits n).length, ((Lib.decDigits n)[0]'h).toNat ≠ 48 := by
  induction n using Nat.strongRecOn with
  | ind n ih =>
    by_cases h : n < 10
    · intro hh
      have e : Lib.decDigits n = [UInt8.ofNat (48 + n)] := by rw [Lib.decDigits, dif_pos h]
      have := digit_cell h
      simp only [e, List.getElem_cons_zero]
      omega
    · intro hh
      have hp := dec_ne (n / 10)
      have e : Lib.decDigits n = Lib.decDigits (n / 10) ++ [UInt8.ofNat (48 + n % 10)] := by rw [Lib.decDigits, dif_neg h]
      have h1 := ih (n / 10) (by omega) (by omega) hp
      simp only [e, List.getElem_append_left hp]
      exact h1
theorem plain_dec (n : Nat) : Plain (Lib.decDigits n) := by
  refine ⟨dec_ne n, digs_dec n, fun h1 h => ?_⟩
  by_cases h0 : n = 0
  · subst h0
    rw [Lib.decDigits_one (by omega)] at h1
    simp at h1
  · exact dec_front n h0 h
end Lw
namespace Go.Proofs.YtdecmhcojdnokaaGreatDoor
open Go Go.RowKit Lw
set_option maxRecDepth 100000 in
set_option maxHeartbeats 3200000 in
theorem plain_any (l : List UInt8) (w : World) (hp : Plain l) (hl : l.length ≤ 65536) :
    Calls Tryz.prog 146 #[.string ⟨l.toArray⟩] w fun e w' => e = .returned (.bool true) ∧ w = w' := by
  obtain ⟨S, hS⟩ : ∃ S : ByteArray, S = ⟨l.toArray⟩ := ⟨_, rfl⟩
  have hsz : S.size = l.length := by rw [hS]; simp [ByteArray.size]
  have hat : ∀ k (h : k < S.size), (S[k]'h).toNat = (l[k]'(by omega)).toNat := by intro k h; subst hS; rfl
  obtain ⟨h0, hd, hz⟩ := hp
  have hne : S.toList.isEmpty = false := by
    rw [hS, ByteArray.toList_mk]
    cases l with
    | nil => simp at h0
    | cons x l => rfl
  have hs0 : 0 < S.size := by omega
  have hfst := hd (l[0]'h0) (List.getElem_mem _)
  rw [← hS]
  have HAT := Lib.hid hat
  have HD := Lib.hid hd
  obtain ⟨b, hb⟩ : ∃ b, b = (l[0]'h0).toNat := ⟨_, rfl⟩
  have hsb : ((S[0]'hs0).toNat : Int) = (b : Int) := by rw [hat 0 hs0, hb]
  have HZ : Hid (1 < l.length → b ≠ 48) := Lib.hid (fun h => by rw [hb]; exact hz h h0)
  rw [← hb] at hfst
  clear hat hd hS hz hb
  go_enter Tryz.func146, Tryz.ntmps146
  by_cases h48 : b = 48
  · have h1 : l.length = 1 := by rcases Nat.lt_or_ge 1 l.length with h | h; exact absurd h48 (HZ.out h); omega
    go_wp2_with fail
    go_loopw [18] (fun iv wr => ∃ i : Nat, i ≤ l.length ∧ iv = .int .i64 i ∧ w = wr) (fun iv _ => l.length - (intOf iv).toNat)
    case atStart => exact ⟨0, Nat.zero_le _, rfl, rfl⟩
    case round =>
      obtain ⟨i, hi, rfl, rfl⟩ := hrel
      by_cases hil : i < l.length
      · have hks : i < S.size := by omega
        have hbb := HD.out (l[i]'hil) (List.getElem_mem _)
        obtain ⟨d, hdd⟩ : ∃ d, d = (l[i]'hil).toNat := ⟨_, rfl⟩
        have hsk : ((S[i]'hks).toNat : Int) = (d : Int) := by rw [HAT.out i hks, hdd]
        rw [← hdd] at hbb
        obtain ⟨hb1, hb2⟩ := hbb
        clear hdd
        go_wp2_with fail
        go_roundw
        case rel => exact ⟨i + 1, by omega, by go_num, trivial⟩
        case measure => simp [intOf]; omega
      · obtain rfl : i = l.length := by omega
        go_wp2_with fail
        go_ret
        exact ⟨rfl, rfl⟩
  · have hbi : ((b : Int) == 48) = false := by rw [beq_eq_false_iff_ne]; omega
    go_wp2_with fail
    go_loopw [18] (fun iv wr => ∃ i : Nat, i ≤ l.length ∧ iv = .int .i64 i ∧ w = wr) (fun iv _ => l.length - (intOf iv).toNat)
    case atStart => exact ⟨0, Nat.zero_le _, rfl, rfl⟩
    case round =>
      obtain ⟨i, hi, rfl, rfl⟩ := hrel
      by_cases hil : i < l.length
      · have hks : i < S.size := by omega
        have hbb := HD.out (l[i]'hil) (List.getElem_mem _)
        obtain ⟨d, hdd⟩ : ∃ d, d = (l[i]'hil).toNat := ⟨_, rfl⟩
        have hsk : ((S[i]'hks).toNat : Int) = (d : Int) := by rw [HAT.out i hks, hdd]
        rw [← hdd] at hbb
        obtain ⟨hb1, hb2⟩ := hbb
        clear hdd
        go_wp2_with fail
        go_roundw
        case rel => exact ⟨i + 1, by omega, by go_num, trivial⟩
        case measure => simp [intOf]; omega
      · obtain rfl : i = l.length := by omega
        go_wp2_with fail
        go_ret
        exact ⟨rfl, rfl⟩
end Go.Proofs.YtdecmhcojdnokaaGreatDoor
/-! Walk of integer.Parse at the text of an integer. -/
namespace Go.Proofs.YtdecmhcojdnokaaGreatDoor
open Go Go.RowKit Lw
theorem readDec_any (N : Nat) (w : World) (hl : (Lib.decDigits N).length ≤ 65536) :
    Calls Tryz.prog 147 #[.string ⟨(Lib.decDigits N).toArray⟩] w fun e w' => ∃ A c, e = .returned (.slice A (digs N).length c) ∧ (digs N).length ≤ c ∧ Rd w' w'.heap.size A (digs N) ∧ Below w.heap.size w w' := by
  refine (readDigits_any _ w (digs_dec N) hl).mono ?_
  rintro e w' ⟨v, n, ds, rfl, hown, hw, hn, hv, ht, hb⟩
  rw [dval_dec] at hv
  have hds : ds = digs N := by rw [← hv]; exact (digs_val hw ht).symm
  subst hds
  have hle := hown.1
  rw [length_arr, Nat.mul_one] at hle
  rcases hown.2 with ⟨rfl, h0⟩ | ⟨g, cap, cur, hv', _, _, hnc, _⟩
  · have e0 : digs N = [] := List.eq_nil_of_length_eq_zero (by omega)
    rw [e0]
    exact ⟨none, 0, rfl, Nat.le_refl _, Rd.nil_ _ _ _, hb⟩
  · obtain ⟨A, c, rfl, hr, hl2⟩ := own_rd hown hw
    simp only [Value.slice.injEq] at hv'
    exact ⟨A, c, by rw [hle], by omega, hr, hb⟩
set_option maxRecDepth 100000 in
set_option maxHeartbeats 3200000 in
theorem parsepos_any (z : Int) (w : World) (hz : sg z = false) (hl : (Lib.decDigits z.natAbs).length ≤ 60000) :
    Calls Tryz.prog 102 #[.string ⟨(Lib.decDigits z.natAbs).toArray⟩] w (RootOut w z) := by
  have hp := plain_any _ w (plain_dec z.natAbs) (by omega)
  have hp' := fun W => plain_any _ W (plain_dec z.natAbs) (by omega)
  have hr' := fun W => readDec_any z.natAbs W (by omega)
  obtain ⟨l, hll⟩ : ∃ l, l = Lib.decDigits z.natAbs := ⟨_, rfl⟩
  have hdd : Digs l := by rw [hll]; exact digs_dec _
  have h0 : 0 < l.length := by rw [hll]; exact dec_ne _
  rw [← hll] at hl hp' hr' ⊢
  obtain ⟨S, hS⟩ : ∃ S : ByteArray, S = ⟨l.toArray⟩ := ⟨_, rfl⟩
  have hsz : S.size = l.length := by rw [hS]; simp [ByteArray.size]
  have hs0 : 0 < S.size := by omega
  have hfst := hdd (l[0]'h0) (List.getElem_mem _)
  obtain ⟨b, hb⟩ : ∃ b, b = (l[0]'h0).toNat := ⟨_, rfl⟩
  have hsb : ((S[0]'hs0).toNat : Int) = (b : Int) := by subst hS; rw [hb]; rfl
  rw [← hb] at hfst
  rw [← hS] at hp' hr' ⊢
  have hb45 : ((b : Int) == 45) = false := by rw [beq_eq_false_iff_ne]; omega
  have HP := Lib.hid hp'
  have HR := Lib.hid hr'
  have HZ := Lib.hid hz
  obtain ⟨hb1, hb2⟩ := hfst
  clear hp hp' hr' hll hdd hS hb hz
  go_enter Tryz.func102, Tryz.ntmps102
  go_wp2_with fail
  refine (HP.out _).mono ?_
  rintro e w1 ⟨rfl, rfl⟩
  go_wp2_with fail
  refine (HR.out _).mono ?_
  rintro e w1 ⟨A2, c2, rfl, hc2, hr2, hb4⟩
  have U2 := (Two.new w 27 (.bool false) (.slice none 0 0)).next hb4
  go_wp2_with fail
  refine (signed_any false A2 z.natAbs _ c2 _ z _ hr2 (Nat.le_refl _) rfl hc2 (by have := sg_mg z; rwa [HZ.out, val_mg] at this)).mono ?_
  rintro e w4 ⟨A4, c4, rfl, hc4, hr4, hb5⟩
  have V2 := U2.next hb5
  obtain ⟨d0, d1, g0, g1⟩ := V2.facts
  have hb3 := (Below.refl w.heap.size w).alloc (Nat.le_refl _) (.cells #[.bool false, .slice none 0 0] 27)
  go_wp2_with fail
  refine bodyPost_ret (v := .tuple #[.agg #[.bool (sg z), .slice A4 (mg z).length c4], .nilIface]) (by simp [results, Tryz.results102, go_sem, d0, d1]) rfl ?_
  obtain ⟨A5, c5, he, h1, h2, h3⟩ := zout_put V2 hr4 hb5.size hc4 (below_next (below_next hb3 hb4 (Nat.le_refl _)) hb5 (Nat.le_refl _)) (by omega)
  injection he with he
  injection he with he
  simp at he
  obtain ⟨rfl, rfl⟩ := he
  exact ⟨A4, c4, rfl, h1, h2, h3⟩
set_option maxRecDepth 100000 in
set_option maxHeartbeats 3200000 in
theorem parseneg_any (z : Int) (w : World) (hz : sg z = true) (hl : (Lib.decDigits z.natAbs).length ≤ 60000) :
    Calls Tryz.prog 102 #[.string ⟨(45 :: Lib.decDigits z.natAbs).toArray⟩] w (RootOut w z) := by
  have hp' := fun W => plain_any _ W (plain_dec z.natAbs) (by omega)
  have hr' := fun W => readDec_any z.natAbs W (by omega)
  have hn48 : ((Lib.decDigits z.natAbs) == [48]) = false := by
    rw [beq_eq_false_iff_ne]
    intro e
    have h1 := dval_dec z.natAbs
    rw [e] at h1
    have h2 := (sg_true hz).2
    have h3 : dval [48] = 0 := rfl
    omega
  obtain ⟨l, hll⟩ : ∃ l, l = Lib.decDigits z.natAbs := ⟨_, rfl⟩
  have h0 : 0 < l.length := by rw [hll]; exact dec_ne _
  rw [← hll] at hl hp' hr' hn48 ⊢
  obtain ⟨D, hD⟩ : ∃ D : ByteArray, D = ⟨l.toArray⟩ := ⟨_, rfl⟩
  obtain ⟨S, hS⟩ : ∃ S : ByteArray, S = ⟨(45 :: l).toArray⟩ := ⟨_, rfl⟩
  obtain ⟨M, hM⟩ : ∃ M, M = l.length + 1 := ⟨_, rfl⟩
  have hsz : S.size = M := by rw [hS, hM]; simp [ByteArray.size]
  have hs0 : 0 < S.size := by omega
  have hM1 : 1 ≤ M := by omega
  have hM2 : M ≤ 65536 := by omega
  obtain ⟨b, hb⟩ : ∃ b : Nat, b = 45 := ⟨_, rfl⟩
  have hsb : ((S[0]'hs0).toNat : Int) = (b : Int) := by subst hS; rw [hb]; rfl
  have hb45 : ((b : Int) == 45) = true := by rw [hb]; rfl
  have hx1 : S.extract 1 M = D := by rw [hS, hD, hM, ext_bytes]; simp
  have hD48 : (D.toList == [48]) = false := by rw [hD, ByteArray.toList_mk]; exact hn48
  rw [← hS]
  rw [← hD] at hp' hr'
  have HP := Lib.hid hp'
  have HR := Lib.hid hr'
  have HZ := Lib.hid hz
  clear hp' hr' hll hD hS hz hn48 hb hM hl h0
  go_enter Tryz.func102, Tryz.ntmps102
  go_wp2_with fail
  refine (HP.out _).mono ?_
  rintro e w1 ⟨rfl, rfl⟩
  go_wp2_with fail
  refine (HR.out _).mono ?_
  rintro e w1 ⟨A2, c2, rfl, hc2, hr2, hb4⟩
  have U2 := (Two.new w 27 (.bool false) (.slice none 0 0)).next hb4
  go_wp2_with fail
  refine (signed_any true A2 z.natAbs _ c2 _ z _ hr2 (Nat.le_refl _) rfl hc2 (by have := sg_mg z; rwa [HZ.out, val_mg] at this)).mono ?_
  rintro e w4 ⟨A4, c4, rfl, hc4, hr4, hb5⟩
  have V2 := U2.next hb5
  obtain ⟨d0, d1, g0, g1⟩ := V2.facts
  have hb3 := (Below.refl w.heap.size w).alloc (Nat.le_refl _) (.cells #[.bool false, .slice none 0 0] 27)
  go_wp2_with fail
  refine bodyPost_ret (v := .tuple #[.agg #[.bool (sg z), .slice A4 (mg z).length c4], .nilIface]) (by simp [results, Tryz.results102, go_sem, d0, d1]) rfl ?_
  obtain ⟨A5, c5, he, h1, h2, h3⟩ := zout_put V2 hr4 hb5.size hc4 (below_next (below_next hb3 hb4 (Nat.le_refl _)) hb5 (Nat.le_refl _)) (by omega)
  injection he with he
  injection he with he
  simp at he
  obtain ⟨rfl, rfl⟩ := he
  exact ⟨A4, c4, rfl, h1, h2, h3⟩
/-- The text of an integer is read back as the same integer. -/
theorem parse_any (z : Int) (w : World) (hl : (Lib.decDigits z.natAbs).length ≤ 60000) :
    Calls Tryz.prog 102 #[.string ⟨(Lib.itoa z).toArray⟩] w (RootOut w z) := by
  cases h : sg z
  · rw [itoa_pos h]; exact parsepos_any z w h hl
  · rw [itoa_neg h]; exact parseneg_any z w h hl
end Go.Proofs.YtdecmhcojdnokaaGreatDoor
/-! The texts that Parse reads: exactly the texts of integers. -/
namespace Lw
open Go
theorem digit_back {b : UInt8} (h1 : 48 ≤ b.toNat) : UInt8.ofNat (48 + (b.toNat - 48)) = b := by
  rw [show 48 + (b.toNat - 48) = b.toNat by omega]; exact UInt8.ofNat_toNat
theorem dec_zero : Lib.decDigits 0 = [48] := by rw [Lib.decDigits, dif_pos (by omega)]; rfl
theorem dec_of_plain (k : Nat) : ∀ l : List UInt8, l.length ≤ k → Plain l → Lib.decDigits (dval l) = l := by
  induction k with
  | zero => intro l hl h; exact absurd h.1 (by omega)
  | succ k ih =>
    intro l hl h
    obtain ⟨h0, hd, hz⟩ := h
    obtain ⟨m, b, rfl⟩ : ∃ m b, l = m ++ [b] := ⟨l.dropLast, l.getLast (by intro e; rw [e] at h0; simp at h0), (List.dropLast_concat_getLast (by intro e; rw [e] at h0; simp at h0)).symm⟩
    have hb := hd b (by simp)
    rw [dval_snoc]
    rcases Nat.eq_zero_or_pos m.length with hm | hm
    · obtain rfl := List.eq_nil_of_length_eq_zero hm
      rw [dval_nil, Nat.zero_mul, Nat.zero_add, Lib.decDigits, dif_pos (by omega), digit_back hb.1]; rfl
    · have hf := hz (by simp; omega) (by simp)
      rw [List.getElem_append_left hm] at hf
      have hp : Plain m := ⟨hm, fun x hx => hd x (by simp [hx]), fun _ _ => hf⟩
      have e := ih m (by simp at hl; omega) hp
      have hv : dval m ≠ 0 := by
        intro e0
        rw [e0, dec_zero] at e
        subst e
        exact hf rfl
      rw [Lib.decDigits, dif_neg (by omega), show (dval m * 10 + (b.toNat - 48)) / 10 = dval m by omega, show (dval m * 10 + (b.toNat - 48)) % 10 = b.toNat - 48 by omega, e, digit_back hb.1]
/-- Digits as Parse wants them behind a sign or none. -/
def Fits (neg : Bool) (d : List UInt8) : Prop := Plain d ∧ ¬(neg = true ∧ d = [48])
theorem dec_plain {l : List UInt8} (h : Plain l) : Lib.decDigits (dval l) = l := dec_of_plain l.length l (Nat.le_refl _) h
theorem good_pos {d : List UInt8} (h : Fits false d) : d = Lib.itoa (dval d : Int) := by
  rw [itoa_pos (by unfold sg; simp), Int.natAbs_natCast, List.nil_append, dec_plain h.1]
theorem good_neg {d : List UInt8} (h : Fits true d) : 45 :: d = Lib.itoa (-(dval d : Int)) := by
  have h0 : dval d ≠ 0 := by
    intro e
    have := dec_plain h.1
    rw [e, dec_zero] at this
    exact h.2 ⟨rfl, this.symm⟩
  rw [itoa_neg (by unfold sg; simp; omega), Int.natAbs_neg, Int.natAbs_natCast, dec_plain h.1]; rfl
theorem not45 {l : List UInt8} (h : Digs l) (h0 : 0 < l.length) : (l[0]'h0).toNat ≠ 45 := by
  have := h _ (List.getElem_mem h0)
  omega
theorem no_pos {l : List UInt8} (h45 : ∀ h : 0 < l.length, (l[0]'h).toNat ≠ 45) (h : ¬Fits false l) : ∀ z, l ≠ Lib.itoa z := by
  intro z e
  cases hz : sg z
  · rw [itoa_pos hz, List.nil_append] at e
    exact h ⟨by rw [e]; exact plain_dec _, fun hh => by cases hh.1⟩
  · rw [itoa_neg hz] at e
    subst e
    exact h45 (by simp) rfl
theorem no_neg {d : List UInt8} (h : ¬Fits true d) : ∀ z, 45 :: d ≠ Lib.itoa z := by
  intro z e
  cases hz : sg z
  · rw [itoa_pos hz, List.nil_append] at e
    have hp := plain_dec z.natAbs
    rw [← e] at hp
    exact not45 hp.2.1 hp.1 rfl
  · rw [itoa_neg hz, List.singleton_append] at e
    injection e with _ e
    refine h ⟨by rw [e]; exact plain_dec _, fun hh => ?_⟩
    have h1 := dval_dec z.natAbs
    rw [← e, hh.2] at h1
    have h2 := (sg_true hz).2
    have h3 : dval [48] = 0 := rfl
    omega
/-- The first bytes of plain digits. -/
theorem front_good {neg : Bool} {d : List UInt8} (hd : Digs d) (h0 : 0 < d.length) (h : (d[0]'h0).toNat = 48 → d.length = 1 ∧ neg = false) : Fits neg d := by
  refine ⟨⟨h0, hd, fun h1 _ e => by have := (h e).1; omega⟩, fun hh => ?_⟩
  obtain ⟨rfl, rfl⟩ := hh
  have := (h rfl).2
  cases this
theorem good_front {neg : Bool} {d : List UInt8} (h : Fits neg d) (h0 : 0 < d.length) (e : (d[0]'h0).toNat = 48) : d.length = 1 ∧ neg = false := by
  obtain ⟨⟨_, hd, hz⟩, hn⟩ := h
  have h1 : d.length = 1 := by
    rcases Nat.lt_or_ge 1 d.length with h1 | h1
    · exact absurd e (hz h1 h0)
    · omega
  refine ⟨h1, ?_⟩
  cases neg
  · rfl
  · refine absurd ⟨rfl, ?_⟩ hn
    obtain ⟨b, rfl⟩ := List.length_eq_one_iff.1 h1
    have e' : b.toNat = 48 := e
    have : b = 48 := UInt8.toNat_inj.1 e'
    rw [this]
end Lw
/-! Walks of integer: plain, Parse at what is no integer's text. -/
namespace Lw
open Go
theorem digs_more {l : List UInt8} {i : Nat} (h : i < l.length) (hd : Digs (l.take i)) (hb : 48 ≤ (l[i]'h).toNat ∧ (l[i]'h).toNat ≤ 57) : Digs (l.take (i + 1)) := by
  rw [List.take_succ_eq_append_getElem h]
  intro b hb'
  rw [List.mem_append, List.mem_singleton] at hb'
  rcases hb' with hb' | rfl
  · exact hd b hb'
  · exact hb
end Lw
namespace Go.Proofs.YtdecmhcojdnokaaGreatDoor
open Go Go.RowKit Lw
set_option maxRecDepth 100000 in
set_option maxHeartbeats 3200000 in
theorem plainno_any (l : List UInt8) (w : World) (hp : ¬Plain l) (hl : l.length ≤ 65536) :
    Calls Tryz.prog 146 #[.string ⟨l.toArray⟩] w fun e w' => e = .returned (.bool false) ∧ w = w' := by
  obtain ⟨S, hS⟩ : ∃ S : ByteArray, S = ⟨l.toArray⟩ := ⟨_, rfl⟩
  have hsz : S.size = l.length := by rw [hS]; simp [ByteArray.size]
  have hat : ∀ k (h : k < S.size), (S[k]'h).toNat = (l[k]'(by omega)).toNat := by intro k h; subst hS; rfl
  have HPL := Lib.hid hp
  have HAT := Lib.hid hat
  clear hp hat
  rcases Nat.eq_zero_or_pos l.length with h0 | h0
  · have hne : S.toList.isEmpty = true := by
      rw [hS, ByteArray.toList_mk]
      cases l with
      | nil => rfl
      | cons x l => simp at h0
    rw [← hS]
    clear hS
    go_enter Tryz.func146, Tryz.ntmps146
    go_wp2_with fail
    go_ret
    exact ⟨rfl, rfl⟩
  have hne : S.toList.isEmpty = false := by
    rw [hS, ByteArray.toList_mk]
    cases l with
    | nil => simp at h0
    | cons x l => rfl
  have hs0 : 0 < S.size := by omega
  rw [← hS]
  obtain ⟨b, hb⟩ : ∃ b, b = (l[0]'h0).toNat := ⟨_, rfl⟩
  have hsb : ((S[0]'hs0).toNat : Int) = (b : Int) := by rw [HAT.out 0 hs0, hb]
  have HB := Lib.hid hb
  clear hb hS
  go_enter Tryz.func146, Tryz.ntmps146
  by_cases h48 : b = 48
  · by_cases h1 : 1 < l.length
    · go_wp2_with fail
      go_ret
      exact ⟨rfl, rfl⟩
    have h1' : l.length = 1 := by omega
    go_wp2_with fail
    go_loopw [18] (fun iv wr => ∃ i : Nat, i ≤ l.length ∧ iv = .int .i64 i ∧ Hid (Digs (l.take i)) ∧ w = wr) (fun iv _ => l.length - (intOf iv).toNat)
    case atStart => exact ⟨0, Nat.zero_le _, rfl, Lib.hid (by intro x hx; simp at hx), rfl⟩
    case round =>
      obtain ⟨i, hi, rfl, hdg, rfl⟩ := hrel
      by_cases hil : i < l.length
      · have hks : i < S.size := by omega
        obtain ⟨d, hdd⟩ : ∃ d, d = (l[i]'hil).toNat := ⟨_, rfl⟩
        have hsk : ((S[i]'hks).toNat : Int) = (d : Int) := by rw [HAT.out i hks, hdd]
        have HNX : Hid (48 ≤ d ∧ d ≤ 57 → Digs (l.take (i + 1))) := Lib.hid (fun hh => digs_more hil hdg.out (by rw [← hdd]; exact hh))
        clear hdd
        by_cases hd1 : d < 48
        · go_wp2_with fail
          go_ret
          exact ⟨rfl, rfl⟩
        · by_cases hd2 : 57 < d
          · go_wp2_with fail
            go_ret
            exact ⟨rfl, rfl⟩
          · go_wp2_with fail
            go_roundw
            case rel => exact ⟨i + 1, by omega, by go_num, Lib.hid (HNX.out ⟨by omega, by omega⟩), trivial⟩
            case measure => simp [intOf]; omega
      · obtain rfl : i = l.length := by omega
        exfalso
        refine HPL.out ⟨h0, ?_, ?_⟩
        · have := hdg.out; rwa [List.take_length] at this
        · intro h1 hh; rw [← HB.out]; omega
  · have hbi : ((b : Int) == 48) = false := by rw [beq_eq_false_iff_ne]; omega
    have H48 := Lib.hid h48
    go_wp2_with fail
    go_loopw [18] (fun iv wr => ∃ i : Nat, i ≤ l.length ∧ iv = .int .i64 i ∧ Hid (Digs (l.take i)) ∧ w = wr) (fun iv _ => l.length - (intOf iv).toNat)
    case atStart => exact ⟨0, Nat.zero_le _, rfl, Lib.hid (by intro x hx; simp at hx), rfl⟩
    case round =>
      obtain ⟨i, hi, rfl, hdg, rfl⟩ := hrel
      by_cases hil : i < l.length
      · have hks : i < S.size := by omega
        obtain ⟨d, hdd⟩ : ∃ d, d = (l[i]'hil).toNat := ⟨_, rfl⟩
        have hsk : ((S[i]'hks).toNat : Int) = (d : Int) := by rw [HAT.out i hks, hdd]
        have HNX : Hid (48 ≤ d ∧ d ≤ 57 → Digs (l.take (i + 1))) := Lib.hid (fun hh => digs_more hil hdg.out (by rw [← hdd]; exact hh))
        clear hdd
        by_cases hd1 : d < 48
        · go_wp2_with fail
          go_ret
          exact ⟨rfl, rfl⟩
        · by_cases hd2 : 57 < d
          · go_wp2_with fail
            go_ret
            exact ⟨rfl, rfl⟩
          · go_wp2_with fail
            go_roundw
            case rel => exact ⟨i + 1, by omega, by go_num, Lib.hid (HNX.out ⟨by omega, by omega⟩), trivial⟩
            case measure => simp [intOf]; omega
      · obtain rfl : i = l.length := by omega
        exfalso
        refine HPL.out ⟨h0, ?_, ?_⟩
        · have := hdg.out; rwa [List.take_length] at this
        · intro h1 hh; rw [← HB.out]; exact H48.out
/-- Parse's answer where it reads nothing. -/
def NotRead (w : World) (z : Int) (e : Ending) (w' : World) : Prop := e = .returned (.tuple #[.agg #[.bool false, .slice none 0 0], .iface 64 (.int .i64 z)]) ∧ Below w.heap.size w w'
set_option maxRecDepth 100000 in
set_option maxHeartbeats 3200000 in
theorem parsenopos_any (l : List UInt8) (w : World) (h45 : ∀ h : 0 < l.length, (l[0]'h).toNat ≠ 45) (hg : ¬Fits false l) (hl : l.length ≤ 65536) :
    Calls Tryz.prog 102 #[.string ⟨l.toArray⟩] w (NotRead w 2) := by
  have hp' := fun W => plainno_any l W (fun h => hg ⟨h, fun hh => by cases hh.1⟩) hl
  obtain ⟨S, hS⟩ : ∃ S : ByteArray, S = ⟨l.toArray⟩ := ⟨_, rfl⟩
  have hsz : S.size = l.length := by rw [hS]; simp [ByteArray.size]
  have hat : ∀ k (h : k < S.size), (S[k]'h).toNat = (l[k]'(by omega)).toNat := by intro k h; subst hS; rfl
  rw [← hS] at hp' ⊢
  have HP := Lib.hid hp'
  have HAT := Lib.hid hat
  have H45 := Lib.hid h45
  clear hp' hat hg hS h45
  rcases Nat.eq_zero_or_pos l.length with h0 | h0
  · go_enter Tryz.func102, Tryz.ntmps102
    go_wp2_with fail
    refine (HP.out _).mono ?_
    rintro e w1 ⟨rfl, rfl⟩
    obtain ⟨d0, d1, g0, g1⟩ := (Two.new w 27 (.bool false) (.slice none 0 0)).facts
    go_wp2_with fail
    refine bodyPost_ret (v := .tuple #[.agg #[.bool false, .slice none 0 0], .iface 64 (.int .i64 2)]) (by simp [results, Tryz.results102, go_sem, d0, d1]) rfl ?_
    exact ⟨rfl, (Below.refl w.heap.size w).alloc (Nat.le_refl _) _⟩
  · have hs0 : 0 < S.size := by omega
    obtain ⟨b, hb⟩ : ∃ b, b = (l[0]'h0).toNat := ⟨_, rfl⟩
    have hsb : ((S[0]'hs0).toNat : Int) = (b : Int) := by rw [HAT.out 0 hs0, hb]
    have hb2 : ((b : Int) == 45) = false := by rw [beq_eq_false_iff_ne]; have := H45.out h0; omega
    clear hb
    go_enter Tryz.func102, Tryz.ntmps102
    go_wp2_with fail
    refine (HP.out _).mono ?_
    rintro e w1 ⟨rfl, rfl⟩
    obtain ⟨d0, d1, g0, g1⟩ := (Two.new w 27 (.bool false) (.slice none 0 0)).facts
    go_wp2_with fail
    refine bodyPost_ret (v := .tuple #[.agg #[.bool false, .slice none 0 0], .iface 64 (.int .i64 2)]) (by simp [results, Tryz.results102, go_sem, d0, d1]) rfl ?_
    exact ⟨rfl, (Below.refl w.heap.size w).alloc (Nat.le_refl _) _⟩
set_option maxRecDepth 100000 in
set_option maxHeartbeats 3200000 in
theorem parsenoneg_any (l : List UInt8) (w : World) (hg : ¬Fits true l) (hl : l.length + 1 ≤ 65536) :
    Calls Tryz.prog 102 #[.string ⟨(45 :: l).toArray⟩] w (NotRead w 2) := by
  obtain ⟨D, hD⟩ : ∃ D : ByteArray, D = ⟨l.toArray⟩ := ⟨_, rfl⟩
  obtain ⟨S, hS⟩ : ∃ S : ByteArray, S = ⟨(45 :: l).toArray⟩ := ⟨_, rfl⟩
  obtain ⟨M, hM⟩ : ∃ M, M = l.length + 1 := ⟨_, rfl⟩
  have hsz : S.size = M := by rw [hS, hM]; simp [ByteArray.size]
  have hs0 : 0 < S.size := by omega
  have hM1 : 1 ≤ M := by omega
  have hM2 : M ≤ 65536 := by omega
  obtain ⟨b, hb⟩ : ∃ b : Nat, b = 45 := ⟨_, rfl⟩
  have hsb : ((S[0]'hs0).toNat : Int) = (b : Int) := by subst hS; rw [hb]; rfl
  have hb45 : ((b : Int) == 45) = true := by rw [hb]; rfl
  have hx1 : S.extract 1 M = D := by rw [hS, hD, hM, ext_bytes]; simp
  rw [← hS]
  by_cases hp : Plain l
  · have h48 : l = [48] := by
      rcases Classical.em (l = [48]) with h | h
      · exact h
      · exact absurd ⟨hp, fun hh => h hh.2⟩ hg
    have hp' := fun W => plain_any l W hp (by omega)
    have hD48 : (D.toList == [48]) = true := by rw [hD, ByteArray.toList_mk, h48]; rfl
    rw [← hD] at hp'
    have HP := Lib.hid hp'
    clear hp' hD hS h48 hb hM hl hp hg
    go_enter Tryz.func102, Tryz.ntmps102
    go_wp2_with fail
    refine (HP.out _).mono ?_
    rintro e w1 ⟨rfl, rfl⟩
    obtain ⟨d0, d1, g0, g1⟩ := (Two.new w 27 (.bool false) (.slice none 0 0)).facts
    go_wp2_with fail
    refine bodyPost_ret (v := .tuple #[.agg #[.bool false, .slice none 0 0], .iface 64 (.int .i64 2)]) (by simp [results, Tryz.results102, go_sem, d0, d1]) rfl ?_
    exact ⟨rfl, (Below.refl w.heap.size w).alloc (Nat.le_refl _) _⟩
  · have hp' := fun W => plainno_any l W hp (by omega)
    rw [← hD] at hp'
    have HP := Lib.hid hp'
    clear hp' hD hS hb hM hl hp hg
    go_enter Tryz.func102, Tryz.ntmps102
    go_wp2_with fail
    refine (HP.out _).mono ?_
    rintro e w1 ⟨rfl, rfl⟩
    obtain ⟨d0, d1, g0, g1⟩ := (Two.new w 27 (.bool false) (.slice none 0 0)).facts
    go_wp2_with fail
    refine bodyPost_ret (v := .tuple #[.agg #[.bool false, .slice none 0 0], .iface 64 (.int .i64 2)]) (by simp [results, Tryz.results102, go_sem, d0, d1]) rfl ?_
    exact ⟨rfl, (Below.refl w.heap.size w).alloc (Nat.le_refl _) _⟩
set_option maxRecDepth 100000 in
set_option maxHeartbeats 3200000 in
theorem parselong_any (S : ByteArray) (w : World) (hl : 65536 < S.size) (hl2 : S.size ≤ 100000) :
    Calls Tryz.prog 102 #[.string S] w (NotRead w 4) := by
  obtain ⟨d0, d1, g0, g1⟩ := (Two.new w 27 (.bool false) (.slice none 0 0)).facts
  go_enter Tryz.func102, Tryz.ntmps102
  go_wp2_with fail
  refine bodyPost_ret (v := .tuple #[.agg #[.bool false, .slice none 0 0], .iface 64 (.int .i64 4)]) (by simp [results, Tryz.results102, go_sem, d0, d1]) rfl ?_
  exact ⟨rfl, (Below.refl w.heap.size w).alloc (Nat.le_refl _) _⟩
/-- Parse at any text that is not too long: the integer whose text it is, or an error. -/
theorem parseall_any (l : List UInt8) (w : World) (hl : l.length ≤ 400) :
    Calls Tryz.prog 102 #[.string ⟨l.toArray⟩] w fun e w' => (∃ z, l = Lib.itoa z ∧ RootOut w z e w') ∨ ((∀ z, l ≠ Lib.itoa z) ∧ NotRead w 2 e w') := by
  rcases Classical.em (∃ z, l = Lib.itoa z) with ⟨z, h⟩ | h
  · subst h
    refine (parse_any z w ?_).mono fun e w' hh => .inl ⟨z, rfl, hh⟩
    cases hz : sg z
    · rw [itoa_pos hz, List.nil_append] at hl; omega
    · rw [itoa_neg hz, List.singleton_append, List.length_cons] at hl; omega
  · have h' : ∀ z, l ≠ Lib.itoa z := fun z e => h ⟨z, e⟩
    by_cases h45 : ∀ h : 0 < l.length, (l[0]'h).toNat ≠ 45
    · exact (parsenopos_any l w h45 (fun hg => h' _ (good_pos hg)) (by omega)).mono fun e w' hh => .inr ⟨h', hh⟩
    · obtain ⟨d, rfl⟩ : ∃ d, l = 45 :: d := by
        cases l with
        | nil => exact absurd (fun h => by simp at h) h45
        | cons x d =>
          refine ⟨d, ?_⟩
          rcases Classical.em (x.toNat = 45) with hx | hx
          · rw [show x = 45 from UInt8.toNat_inj.1 hx]
          · exact absurd (fun _ => hx) h45
      exact (parsenoneg_any d w (fun hg => h' _ (good_neg hg)) (by clear h45; have h9 := hl; rw [List.length_cons] at h9; omega)).mono fun e w' hh => .inr ⟨h', hh⟩
end Go.Proofs.YtdecmhcojdnokaaGreatDoor
