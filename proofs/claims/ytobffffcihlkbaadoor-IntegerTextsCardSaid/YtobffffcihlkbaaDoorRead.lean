/- Walks of integer: appendTimes, readDigits, plain. -/
import Derived.Test.YtobffffcihlkbaaDoorSay
namespace Lw
open Go
/-- The number of decimal digits, from the front. -/
def dval (l : List UInt8) : Nat := l.foldl (fun v b => v * 10 + (b.toNat - 48)) 0
def Digs (l : List UInt8) : Prop := ∀ b ∈ l, 48 ≤ b.toNat ∧ b.toNat ≤ 57
theorem dval_nil : dval [] = 0 := rfl
theorem dval_snoc (l : List UInt8) (b : UInt8) : dval (l ++ [b]) = dval l * 10 + (b.toNat - 48) := by simp [dval]
theorem foldl_from (l : List UInt8) (v : Nat) : l.foldl (fun v b => v * 10 + (b.toNat - 48)) v = v * 10 ^ l.length + dval l := by
  induction l generalizing v with
  | nil => simp [dval]
  | cons b l ih =>
    have h := ih (0 * 10 + (b.toNat - 48))
    rw [List.foldl_cons, ih, List.length_cons, Nat.pow_succ]
    unfold dval
    rw [List.foldl_cons, h]
    grind
theorem dval_append (l m : List UInt8) : dval (l ++ m) = dval l * 10 ^ m.length + dval m := by
  unfold dval; rw [List.foldl_append, foldl_from]; rfl
theorem dval_take {l : List UInt8} {k : Nat} (h : k < l.length) : dval (l.take (k + 1)) = dval (l.take k) * 10 + (l[k].toNat - 48) := by
  rw [List.take_succ_eq_append_getElem h, dval_snoc]
theorem dval_lt {l : List UInt8} (h : Digs l) (k : Nat) (hk : k ≤ l.length) : dval (l.take k) < 10 ^ k := by
  induction k with
  | zero => simp [dval]
  | succ k ih =>
    have h1 := ih (by omega)
    have h2 := h l[k] (List.getElem_mem _)
    rw [dval_take (by omega), Nat.pow_succ]
    omega
theorem digs_take {l : List UInt8} (h : Digs l) (k : Nat) : Digs (l.take k) := fun b hb => h b (List.mem_of_mem_take hb)
theorem digs_drop {l : List UInt8} (h : Digs l) (k : Nat) : Digs (l.drop k) := fun b hb => h b (List.mem_of_mem_drop hb)
theorem dec_step2 {l : List UInt8} {k G U b : Nat} (hk : k < l.length) (hG : G = dval (l.take k)) (hU : U = 10 ^ k) (hb : l[k].toNat = b + 48) : G * 10 + b = dval (l.take (k + 1)) ∧ U * 10 = 10 ^ (k + 1) := by
  rw [dval_take hk, ← hG, hb, Nat.pow_succ, ← hU]
  omega
theorem trm_of_val {l : List Nat} (w : Wds l) (h : pw (l.length - 1) ≤ val l) : Trm l := by
  rcases Nat.eq_zero_or_pos l.length with h0 | h0
  · rw [List.eq_nil_of_length_eq_zero h0]; exact trm_nil
  · refine trm_of_last fun e => ?_
    have h1 := lo_succ l (l.length - 1)
    rw [show l.length - 1 + 1 = l.length by omega, lo_all (Nat.le_refl _), e] at h1
    have := lo_lt w (l.length - 1)
    omega
theorem trm_times {cs ds : List Nat} {U G : Nat} (wd : Wds ds) (hl : ds.length = cs.length) (hU : 0 < U) (hv : val ds = val cs * U + G) (t : Trm cs) : Trm ds := by
  rcases Nat.eq_zero_or_pos cs.length with h0 | h0
  · rw [List.eq_nil_of_length_eq_zero (hl.trans h0)]; exact trm_nil
  · refine trm_of_val wd ?_
    have h1 := pw_le_val t (by intro e; rw [e] at h0; simp at h0)
    rw [hl, hv]
    have : val cs * 1 ≤ val cs * U := Nat.mul_le_mul_left _ hU
    omega
theorem trm_snoc (l : List Nat) {x : Nat} (h : x ≠ 0) : Trm (l ++ [x]) := by
  intro y hy
  simp at hy
  omega
theorem times_step {cs ds : List Nat} {k C C' R G U : Nat} (hk : k < ds.length) (hv : lo ds k + pw k * C = lo cs k * U + G) (_hd : dg ds k = dg cs k) (hD : C + dg cs k * U = C' * 4294967296 + R) :
    lo (ds.set k R) (k + 1) + pw (k + 1) * C' = lo cs (k + 1) * U + G := by
  rw [lo_put _ hk, lo_succ, pw_succ]
  have h : pw k * (C + dg cs k * U) = pw k * (C' * 4294967296 + R) := by rw [hD]
  grind
end Lw
namespace Go.Proofs.YtobffffcihlkbaaDoor
open Go Go.RowKit Lw
set_option maxRecDepth 100000 in
set_option maxHeartbeats 3200000 in
theorem appendDec_any (Bt : Nat) (l : List UInt8) (v : Value) (n : Nat) (cs : List Nat) (w : World) (hown : w.ownsRow Bt 46 1 v n (arr cs)) (hcw : Wds cs) (hBt : Bt ≤ w.heap.size) (hn : n ≤ 1048576) (hd : Digs l) (hl : l.length ≤ 9) :
    Calls Tryd.prog 63 #[v, .string ⟨l.toArray⟩] w fun e w' => ∃ v' n' ds, e = .returned v' ∧ w'.ownsRow Bt 46 1 v' n' (arr ds) ∧ Wds ds ∧ n' ≤ n + 1 ∧ val ds = val cs * 10 ^ l.length + dval l ∧ (Trm cs → Trm ds) ∧ Below Bt w w' := by
  obtain ⟨S, hS⟩ : ∃ S : ByteArray, S = ⟨l.toArray⟩ := ⟨_, rfl⟩
  have hsz : S.size = l.length := by rw [hS]; simp [ByteArray.size]
  have hat : ∀ k (h : k < S.size), (S[k]'h).toNat = (l[k]'(by omega)).toNat := by intro k h; subst hS; rfl
  obtain ⟨A, c, rfl⟩ : ∃ A c, v = .slice A n c := by
    rcases hown.2 with ⟨rfl, rfl⟩ | ⟨g, cap, cur, rfl, _⟩
    · exact ⟨_, _, rfl⟩
    · exact ⟨_, _, rfl⟩
  rw [← hS]
  have HAT := Lib.hid hat
  have HD := Lib.hid hd
  clear hS hat hd
  go_enter Tryd.func63, Tryd.ntmps63
  go_wp2_with fail
  go_loopw [5, 6, 13] (fun gv uv iv wr => ∃ k G U : Nat, k ≤ l.length ∧ iv = .int .i64 k ∧ gv = .int .u64 G ∧ uv = .int .u64 U ∧ G < U ∧ U ≤ 1000000000 ∧ Hid (G = dval (l.take k) ∧ U = 10 ^ k) ∧ wr = w) (fun _ _ i _ => l.length - (intOf i).toNat)
  case atStart => exact ⟨0, 0, 1, Nat.zero_le _, rfl, rfl, rfl, by omega, by omega, Lib.hid ⟨rfl, rfl⟩, rfl⟩
  case round =>
    obtain ⟨k, G, U, hk, rfl, rfl, rfl, hGU, hU, hv, rfl⟩ := hrel
    by_cases hkl : k < l.length
    · have hks : k < S.size := by omega
      have hb := HD.out (l[k]'hkl) (List.getElem_mem _)
      obtain ⟨b, hbv⟩ : ∃ b, (l[k]'hkl).toNat = b + 48 := ⟨(l[k]'hkl).toNat - 48, by omega⟩
      have hb9 : b ≤ 9 := by omega
      have hsk : ((S[k]'hks).toNat : Int) = (b : Int) + 48 := by rw [HAT.out k hks, hbv]; omega
      have HST := Lib.hid (dec_step2 hkl hv.out.1 hv.out.2 hbv)
      have hU1 : Hid (U * 10 ≤ 1000000000) := Lib.hid (by rw [HST.out.2]; exact Nat.le_trans (Nat.pow_le_pow_right (by omega) (show k + 1 ≤ 9 by omega)) (by decide))
      clear hb hbv
      go_wp2_with fail
      go_roundw
      case rel => exact ⟨k + 1, G * 10 + b, U * 10, by omega, by go_num, by go_num, by go_num, by omega, hU1.out, Lib.hid HST.out, trivial⟩
      case measure => simp [intOf]; omega
    · obtain rfl : k = l.length := by omega
      have HV : Hid (G = dval l ∧ U = 10 ^ l.length) := Lib.hid (by have := hv.out; rwa [List.take_length] at this)
      clear hv
      go_wp2_with fail
      go_loopw [8, 30] (fun cv iv wr' => ∃ (k C : Nat) (ds : List Nat), k ≤ n ∧ C ≤ 1000000000 ∧ iv = .int .i64 k ∧ cv = .int .u64 C ∧ wr'.ownsRow Bt 46 1 (.slice A n c) n (arr ds) ∧ Wds ds ∧ Hid (ds.length = n) ∧
          Hid (∀ j, k ≤ j → dg ds j = dg cs j) ∧ Hid (lo ds k + pw k * C = lo cs k * U + G) ∧ Below Bt wr wr') (fun _ i _ => n - (intOf i).toNat)
      case atStart => exact ⟨0, G, cs, Nat.zero_le _, by omega, rfl, rfl, hown, hcw, Lib.hid (by have := hown.1; rwa [length_arr, Nat.mul_one] at this), Lib.hid (fun _ _ => rfl), Lib.hid (by simp [lo_zero, pw_zero]), Below.refl _ _⟩
      case round =>
        obtain ⟨k, C, ds, hk, hC, rfl, rfl, hown2, hdw, hdl, hsame, hval, hbw⟩ := hrel
        have hszb := hbw.size
        by_cases hkn : k < n
        · obtain ⟨g, rfl, hgB⟩ : ∃ g, A = some ⟨g, 0, none⟩ ∧ Bt ≤ g := by
            rcases hown2.2 with ⟨h1, h2⟩ | ⟨g, cap, cur, h1, h2, _⟩
            · omega
            · simp only [Value.slice.injEq] at h1; exact ⟨g, h1.1, h2⟩
          have hlt := dg_lt hdw k
          have hcc := hown2.cellAt k (by omega)
          rw [arr_get? ds k (by rw [hdl.out]; exact hkn)] at hcc
          have hfr := hown2.frozenAt k
          obtain ⟨x, hx⟩ : ∃ x, x = dg ds k := ⟨_, rfl⟩
          rw [← hx] at hcc hlt
          obtain ⟨P, hP⟩ : ∃ P, P = x * U := ⟨_, rfl⟩
          have hPl : P ≤ 4294967295 * 1000000000 := by rw [hP]; exact Nat.mul_le_mul (by omega) hU
          have hPi : (x : Int) * (U : Int) = (P : Int) := by rw [hP]; simp
          have hPj : (U : Int) * (x : Int) = (P : Int) := by rw [Int.mul_comm]; exact hPi
          obtain ⟨R, hR⟩ : ∃ R, R = (C + P) % 4294967296 := ⟨_, rfl⟩
          obtain ⟨C', hC'⟩ : ∃ C', C' = (C + P) / 4294967296 := ⟨_, rfl⟩
          have HST := Lib.hid (times_step (C' := C') (R := R) (by rw [hdl.out]; exact hkn) hval.out (hsame.out k (Nat.le_refl _)) (by rw [← hsame.out k (Nat.le_refl _), ← hx, ← hP, hR, hC']; omega))
          have hRl : R < 4294967296 := by omega
          have hCl : C' ≤ 1000000000 := by omega
          have hRi : ((C : Int) + (P : Int)) % 4294967296 = (R : Int) := by omega
          have hCi : ((C : Int) + (P : Int)) / 4294967296 = (C' : Int) := by omega
          have hst := hown2.stored k (.int .u32 (R : Int))
          rw [arr_set] at hst
          have HSS := Lib.hid hst
          have hPl2 : P ≤ 4294967295000000000 := by omega
          clear hx hP hR hC' hst hPl
          go_wp2_with fail
          go_roundw
          case rel =>
            refine ⟨k + 1, C', ds.set k R, by omega, hCl, by go_num, by go_num, HSS.out.1, wds_set hdw _ hRl, Lib.hid (by rw [List.length_set]; exact hdl.out), Lib.hid ?_, HST, hbw.setCell hgB _⟩
            intro j hj
            rw [dg_set _ (by rw [hdl.out]; exact hkn), if_neg (by omega)]
            exact hsame.out j (by omega)
          case measure => simp [intOf]; omega
        · obtain rfl : k = n := by omega
          have hkc : cs.length = k := by have := hown.1; rwa [length_arr, Nat.mul_one] at this
          have hv2 := hval.out
          rw [lo_all (by rw [hdl.out]; exact Nat.le_refl _), lo_all (by omega)] at hv2
          have hU0 : 0 < U := by omega
          by_cases h0 : C = 0
          · subst h0
            rw [Nat.mul_zero, Nat.add_zero] at hv2
            have HF : Hid (val ds = val cs * 10 ^ l.length + dval l ∧ (Trm cs → Trm ds)) := Lib.hid ⟨by rw [hv2, HV.out.1, ← HV.out.2], trm_times hdw (by rw [hdl.out, hkc]) hU0 hv2⟩
            clear hv2 hkc
            go_wp2_with fail
            go_ret
            exact ⟨_, k, ds, rfl, hown2, hdw, by omega, HF.out.1, HF.out.2, hbw⟩
          · have HF : Hid (val (ds ++ [C]) = val cs * 10 ^ l.length + dval l ∧ (Trm cs → Trm (ds ++ [C]))) := Lib.hid ⟨by rw [val_snoc, hdl.out, hv2, HV.out.1, ← HV.out.2], fun _ => trm_snoc _ h0⟩
            have hC0 : (0 : Int) < (C : Int) := by omega
            have hrone := (Blk.new wr 46 [C]).rd (by rw [wds_cons]; exact ⟨by omega, wds_nil⟩)
            have hcm : (C : Int) % 4294967296 = (C : Int) := by omega
            clear hv2 hkc
            go_wp2_with (at_builtin; refine wpList_append32 _ rfl _ _ 22 rfl Bt 46 Tryd.underlying22 info32 _ k ds rfl (hown2.alloc _) _ _ [C] 1 1 rfl hrone rfl (by omega) (by simp; omega) ?_; intro v' w4 hown4 hgrow4 hnil)
            have hgrow : (wr.alloc (.cells #[.int .u32 (C : Int)] 46)).grownBy w4 (Value.slice A k c).ownBlock := hgrow4
            have hb5 := (hbw.alloc (by omega) (.cells #[.int .u32 (C : Int)] 46)).grown hgrow (by simp; omega) (fun k hk => (hown2.lt k hk).1)
            clear hgrow4 hnil hgrow hrone
            go_wp2_with fail
            go_ret
            exact ⟨_, k + 1, ds ++ [C], rfl, hown4, wds_append.2 ⟨hdw, by rw [wds_cons]; exact ⟨by omega, wds_nil⟩⟩, by omega, HF.out.1, HF.out.2, hb5⟩
end Go.Proofs.YtobffffcihlkbaaDoor
