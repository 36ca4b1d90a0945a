/- Walk of integer.appendDigits. -/
import Derived.Test.YtobffffcihlkbaaDoorText
import Derived.Deep.LoopGhost
namespace Lw
open Go Go.RowKit
/-- What has been split off: the digits of N are those of M and the groups'. -/
def Parts (N M : Nat) (gs : List Nat) : Prop := Lib.decDigits N = Lib.decDigits M ++ tl gs ∧ M * 2 ^ gs.length ≤ N ∧ (∀ x ∈ gs, x ≤ 999999999)
theorem parts_start (N : Nat) : Parts N N [] := ⟨by simp [tl_nil], by simp, fun x h => by cases h⟩
theorem parts_step {N M : Nat} {gs : List Nat} (h : Parts N M gs) (hM : 4294967296 ≤ M) : Parts N (M / 1000000000) (gs ++ [M % 1000000000]) ∧ 1 ≤ M / 1000000000 ∧ M / 1000000000 < M := by
  refine ⟨⟨?_, ?_, ?_⟩, by omega, by omega⟩
  · rw [h.1, tl_snoc, ← List.append_assoc]
    congr 1
    have := dec_pad 9 (M / 1000000000) (M % 1000000000) (by omega) (by simp only [Nat.reducePow]; omega)
    rw [← this]
    congr 1
    simp only [Nat.reducePow]; omega
  · rw [List.length_append, List.length_singleton, Nat.pow_succ]
    have h1 : M / 1000000000 * (2 ^ gs.length * 2) = (M / 1000000000 * 2) * 2 ^ gs.length := by grind
    rw [h1]
    exact Nat.le_trans (Nat.mul_le_mul_right _ (by omega)) h.2.1
  · intro x hx
    rw [List.mem_append, List.mem_singleton] at hx
    rcases hx with hx | hx
    · exact h.2.2 x hx
    · omega
theorem pow32 (n : Nat) : pw n = 2 ^ (32 * n) := by unfold pw; rw [Nat.pow_mul]
theorem parts_len {N M n : Nat} {gs : List Nat} (h : Parts N M gs) (hM : 1 ≤ M) (hN : N < pw n) : gs.length < 32 * n := by
  rw [pow32] at hN
  have h1 := Nat.mul_le_mul_right (2 ^ gs.length) hM
  have h2 : 2 ^ gs.length < 2 ^ (32 * n) := by have := h.2.1; omega
  exact (Nat.pow_lt_pow_iff_right (by omega)).1 h2
theorem parts_wds {N M : Nat} {gs : List Nat} (h : Parts N M gs) : Wds gs := fun x hx => by have := h.2.2 x hx; omega
theorem byteCells_append (a b : List UInt8) : Lib.byteCells (a ++ b) = Lib.byteCells a ++ Lib.byteCells b := by simp [Lib.byteCells]
theorem tl_drop (gs : List Nat) {j : Nat} (h : j < gs.length) : tl (gs.drop j) = tl (gs.drop (j + 1)) ++ padK 9 (dg gs j) := by
  rw [List.drop_eq_getElem_cons h, tl_cons, dg_get h]
theorem own_rd {w : World} {base : Nat} {e : TypeId} {v : Value} {n : Nat} {ns : List Nat} (h : w.ownsRow base e 1 v n (arr ns)) (hw : Wds ns) : ∃ A c, v = .slice A n c ∧ Rd w w.heap.size A ns ∧ ns.length = n := by
  have hl := h.1
  rw [length_arr, Nat.mul_one] at hl
  by_cases hv : v = .slice none 0 0
  · subst hv
    have : n = 0 := by
      rcases h.2 with ⟨_, h0⟩ | ⟨g, cap, cur, hv', _⟩
      · exact h0
      · cases hv'
    subst this
    exact ⟨none, 0, rfl, by rw [List.eq_nil_of_length_eq_zero hl]; exact Rd.nil_ _ _ _, hl⟩
  · obtain ⟨g, c, rfl, _, _, hb⟩ := blk_of_own h hv
    exact ⟨_, c, rfl, hb.rd hw, hl⟩
theorem own_below {w w' : World} {base : Nat} {e : TypeId} {size : Nat} {v : Value} {n : Nat} {xs : List Value} (h : w.ownsRow base e size v n xs) (hb : Below w.heap.size w w') : w'.ownsRow base e size v n xs :=
  h.kept (row := none) ⟨hb.os, hb.tape, hb.output, hb.size, fun k hk _ => hb.block k hk⟩ (by
    rcases h.2 with ⟨rfl, _⟩ | ⟨g, cap, cur, rfl, _⟩
    · exact .inl rfl
    · exact .inr (by simp [Value.ownBlock]))
theorem own_grown {w w' : World} {base g : Nat} {e : TypeId} {size : Nat} {v : Value} {n : Nat} {xs : List Value} (h : w.ownsRow base e size v n xs) (hg : w.grownBy w' (some g)) (hlt : g < base) : w'.ownsRow base e size v n xs :=
  h.kept hg (by
    rcases h.2 with ⟨rfl, _⟩ | ⟨g', cap, cur, rfl, hb, _⟩
    · exact .inl rfl
    · exact .inr (by simp [Value.ownBlock]; omega))
theorem blk_grown {w w' : World} {base g : Nat} {t e : TypeId} {size : Nat} {v : Value} {n : Nat} {xs : List Value} {ns : List Nat} (h : Blk w g t ns) (ho : w.ownsRow base e size v n xs) (hg : w.grownBy w' v.ownBlock) (hlt : g < base) : Blk w' g t ns :=
  h.of_same (hg.block g h.lt (fun e => by have := (ho.lt g e.symm).1; omega))
theorem dg_one {M m : Nat} (h : (digs M).length = m) (hm : m ≤ 1) : dg (digs M) 0 = M := by
  have e1 := lo_all (l := digs M) (k := 1) (by omega)
  rw [lo_succ, lo_zero, pw_zero, val_digs] at e1
  omega
theorem two_words {M m : Nat} (h : (digs M).length = m) (hm : 1 < m) : 4294967296 ≤ M := by
  have := pw_le_val (trm_digs M) (by intro e; rw [e] at h; simp at h; omega)
  rw [val_digs] at this
  have h2 : pw 1 ≤ pw ((digs M).length - 1) := pw_le (by omega)
  have h3 : pw 1 = 4294967296 := rfl
  omega
theorem dec_len (k u : Nat) (h : u < 10 ^ (k + 1)) : (Lib.decDigits u).length ≤ k + 1 := by
  induction k generalizing u with
  | zero => rw [Lib.decDigits, dif_pos (by simpa using h)]; simp
  | succ k ih =>
    rw [Lib.decDigits]
    by_cases h1 : u < 10
    · rw [dif_pos h1]; simp
    · rw [dif_neg h1, List.length_append]
      have := ih (u / 10) (by rw [Nat.pow_succ] at h; omega)
      simp only [List.length_singleton]; omega
/-- A group row of words of type t at A. -/
def Gr (t : TypeId) (w : World) (A : Option Addr) (gs : List Nat) : Prop := gs = [] ∨ ∃ g, A = some ⟨g, 0, none⟩ ∧ Blk w g t gs
theorem Gr.rd {t : TypeId} {w : World} {A : Option Addr} {gs : List Nat} (h : Gr t w A gs) (hw : Wds gs) : Rd w w.heap.size A gs := by
  rcases h with rfl | ⟨g, rfl, h⟩
  · exact Rd.nil_ _ _ _
  · exact h.rd hw
theorem Gr.others {t e : TypeId} {w w' : World} {A : Option Addr} {gs : List Nat} (h : Gr t w A gs) (hk : Lib.OthersKept e none w w') (ht : t ≠ e) : Gr t w' A gs := by
  rcases h with rfl | ⟨g, rfl, rest, h⟩
  · exact .inl rfl
  · exact .inr ⟨g, rfl, rest, hk g _ h (by simp) (fun c fz e => by cases e; exact ht rfl)⟩
theorem Gr.drewN {t : TypeId} {w : World} {A : Option Addr} {gs : List Nat} (h : Gr t w A gs) (k : Nat) : Gr t (w.drewN k) A gs := h
theorem own_gr {w : World} {base : Nat} {e : TypeId} {v : Value} {n : Nat} {ns : List Nat} (h : w.ownsRow base e 1 v n (arr ns)) : ∃ A c, v = .slice A n c ∧ Gr e w A ns := by
  by_cases hv : v = .slice none 0 0
  · subst hv
    have : n = 0 := by
      rcases h.2 with ⟨_, h0⟩ | ⟨g, cap, cur, hv', _⟩
      · exact h0
      · cases hv'
    subst this
    have hl := h.1
    rw [length_arr, Nat.mul_one] at hl
    exact ⟨none, 0, rfl, .inl (List.eq_nil_of_length_eq_zero hl)⟩
  · obtain ⟨g, c, rfl, _, _, hb⟩ := blk_of_own h hv
    exact ⟨_, c, rfl, .inr ⟨g, rfl, hb⟩⟩
end Lw
namespace Go.Proofs.YtobffffcihlkbaaDoor
open Go Go.RowKit Lw
def Tab (w : World) : Prop := Lib.TabIs Tryd.prog w "internal/strconv.uint64pow10" .u64 Lib.pow10Tab
theorem Tab.next {w w' : World} (h : Tab w) (hb : Below w.heap.size w w') : Tab w' := Lib.tabBelow_of_tabIs h w' hb

theorem appendUint_any (B n u : Nat) (hu : u < 18446744073709551616) (sv : Value) (xs : List Value) (w : World) (hown : w.ownsRow B 5 1 sv n xs) (hBw : B ≤ w.heap.size) (hlim : n ≤ 1099511627776) (ht : Tab w) :
    Calls Tryd.prog 73 #[sv, .int .u64 u, .int .i64 10] w fun e w' => ∃ v', e = .returned v' ∧ w'.ownsRow B 5 1 v' (n + (Lib.decDigits u).length) (xs ++ Lib.byteCells (Lib.decDigits u)) ∧ Below B w w' ∧ Lib.OthersKept 5 none w w' := by
  rcases Nat.lt_or_ge u 100 with h | h
  · exact Tryd.internal_strconv_AppendUint_10_small B n u h sv xs w hown hBw (by omega)
  · exact Tryd.internal_strconv_AppendUint_10_big B n u h hu sv xs w hown hBw (by omega) ht

theorem writeUint_any (B n u : Nat) (hu : u < 18446744073709551616) (sv : Value) (xs : List Value) (w : World) (hown : w.ownsRow B 5 1 sv n xs) (hBw : B ≤ w.heap.size) (hlim : n ≤ 1099511627776) (ht : Tab w) :
    Calls Tryd.prog 64 #[sv, .int .u64 u, .int .i64 10] w fun e w' => ∃ v', e = .returned v' ∧ w'.ownsRow B 5 1 v' (n + (Lib.decDigits u).length) (xs ++ Lib.byteCells (Lib.decDigits u)) ∧ Below B w w' ∧ Lib.OthersKept 5 none w w' := by
  go_enter Tryd.func64, Tryd.ntmps64
  go_wp2_with fail
  refine (appendUint_any B n u hu sv xs w hown hBw hlim ht).mono ?_
  rintro e w1 ⟨v', rfl, h1, h2, h3⟩
  go_wp2_with fail
  go_ret
  exact ⟨_, rfl, h1, h2, h3⟩

set_option maxRecDepth 100000 in
set_option maxHeartbeats 3200000 in
theorem appendDigits_any (Bt N : Nat) (l : List UInt8) (v : Value) (nt : Nat) (A : Option Addr) (n c B : Nat) (w : World) (hown : w.ownsRow Bt 5 1 v nt (Lib.byteCells l)) (hBt : Bt ≤ w.heap.size) (hnt : nt ≤ 65536)
    (h : Rd w B A (digs N)) (hB : B ≤ w.heap.size) (hn : (digs N).length = n) (hl : n ≤ 8388608) (ht : Tab w) :
    Calls Tryd.prog 40 #[v, .slice A n c] w fun e w' => ∃ v' k, e = .returned v' ∧ w'.ownsRow Bt 5 1 v' k (Lib.byteCells (l ++ Lib.decDigits N)) ∧ Below Bt w w' := by
  have Hn := Lib.hid hn
  clear hn
  have HNp : Hid (N < pw n) := Lib.hid (by rw [← Hn.out]; exact lt_of_digs_length (Nat.le_refl _))
  go_enter Tryd.func40, Tryd.ntmps40
  go_wp2_with fail
  refine (clone_any A (digs N) _ _ B _ h hB Hn.out (by omega)).mono ?_
  rintro e w1 ⟨A1, c1, rfl, hc1, hg1, hr1, hb1⟩
  have ht1 := ht.next hb1
  have HOwn := Lib.hid hown
  have HT := Lib.hid ht
  have hsz1 := hb1.size
  clear hown ht1 ht h
  go_wp2_with fail
  go_loopg [5, 6] N (fun M gv rv wr => ∃ (gs : List Nat) (k : Nat) (A6 : Option Addr) (m c6 : Nat), rv = .slice A6 m c6 ∧ m ≤ c6 ∧ m ≤ n ∧ Hid ((digs M).length = m) ∧ (0 < m → ∃ g, A6 = some ⟨g, 0, none⟩ ∧ w.heap.size ≤ g ∧ g < w1.heap.size ∧ Blk wr g 46 (digs M)) ∧
      wr.ownsRow w1.heap.size 46 1 gv k (arr gs) ∧ Hid (Parts N M gs) ∧ Hid (gs = [] ∨ 1 ≤ M) ∧ Below w.heap.size w wr ∧ w1.heap.size ≤ wr.heap.size)
  case atStart =>
    refine ⟨[], 0, A1, n, c1, rfl, hc1, Nat.le_refl _, Hn, ?_, World.ownsRow_nil _ _ _ _, Lib.hid (parts_start N), Lib.hid (.inl rfl), hb1, Nat.le_refl _⟩
    intro h0
    obtain ⟨g, h1, h2, h3⟩ := hg1 h0
    exact ⟨g, h1, h2, h3.lt, h3⟩
  case round =>
    obtain ⟨gs, k, A6, m, c6, rfl, hc6, hmn, hm, hblk6, howng, hparts, hone, hbw, hszw⟩ := hrel
    by_cases hm1 : 1 < m
    · obtain ⟨g, rfl, hg0, hgl, hblk⟩ := hblk6 (by omega)
      have HM := Lib.hid (two_words hm.out hm1)
      have HS := Lib.hid (parts_step hparts.out HM.out)
      have hk := howng.1
      rw [length_arr, Nat.mul_one] at hk
      have HK := Lib.hid hk
      have hkl : k ≤ 268435456 := by have := parts_len hparts.out (by have := HM.out; omega) HNp.out; omega
      clear hblk6 hk
      go_wp2_with fail
      refine (divideWord_any g 1000000000 (digs gk) _ c6 _ hblk (wds_digs _) hm.out (by omega) (by omega) (by omega) (by omega)).mono ?_
      rintro e w3 ⟨ds, rfl, hblk3, hw3, hl3, hv3, hg3, hs3⟩
      rw [val_digs] at hv3 ⊢
      obtain ⟨R, hR⟩ : ∃ R, R = gk % 1000000000 := ⟨_, rfl⟩
      rw [← hR] at HS ⊢
      have hRl : R ≤ 999999999 := by omega
      clear hR
      obtain ⟨Q, hQ⟩ : ∃ Q, Q = gk / 1000000000 := ⟨_, rfl⟩
      rw [← hQ] at HS hv3
      clear hQ
      have hb4 := below_of_grown hbw hg3 (by omega) hg0
      have howng3 := own_grown howng hg3 hgl
      have HV3 := Lib.hid hv3
      have HL3 := Lib.hid hl3
      have hsz3 : w1.heap.size ≤ w3.heap.size := by omega
      clear hblk howng hg3 hv3 hl3 hs3
      have hrone := (Blk.new w3 46 [R]).rd (by rw [wds_cons]; exact ⟨by omega, wds_nil⟩)
      go_wp2_with (at_builtin; refine wpList_append32 _ rfl _ _ 22 rfl w1.heap.size 46 Tryd.underlying22 info32 _ k gs rfl (howng3.alloc _) _ _ [R] 1 1 rfl hrone rfl (by omega) (by simp; omega) ?_; intro v' w4 hown4 hgrow4 hnil)
      have hgrow : (w3.alloc (.cells #[.int .u32 (R : Int)] 46)).grownBy w4 u5.ownBlock := hgrow4
      have hblk4 := blk_grown (hblk3.alloc (.cells #[.int .u32 (R : Int)] 46)) (howng3.alloc _) hgrow hgl
      have hszg := hgrow.size
      have hsz4 : w1.heap.size ≤ w4.heap.size := by simp at hszg; omega
      have hb5 : Below w.heap.size w w4 := (hb4.alloc (by omega) _).grown hgrow (by simp; omega) (fun k hk => by have := (howng3.lt k hk).1; omega)
      have hr5 := hblk4.rd hw3
      clear hgrow4 hnil howng3 hgrow hszg hrone
      refine (trim_any _ ds _ c6 _ _ hr5 HL3.out hc6 (by omega)).mono ?_
      rintro e w5 ⟨rfl, rfl⟩
      rw [HV3.out]
      go_wp2_with fail
      go_roundg Q
      case measure => exact HS.out.2.2
      case rel =>
        refine ⟨gs ++ [R], k + 1, _, (digs Q).length, c6, rfl, ?_, ?_, Lib.hid rfl, fun _ => ⟨g, rfl, hg0, hgl, ?_⟩, hown4, Lib.hid HS.out.1, Lib.hid (.inr HS.out.2.1), hb5, hsz4⟩
        · have := digs_len_le hw3; rw [HV3.out, HL3.out] at this; omega
        · have := digs_len_le hw3; rw [HV3.out, HL3.out] at this; omega
        · have := hblk4.digs hw3; rw [HV3.out] at this; exact this
    · have hr6 : Rd wr wr.heap.size A6 (digs gk) := by
        rcases Nat.eq_zero_or_pos m with h0 | h0
        · have e0 : digs gk = [] := List.eq_nil_of_length_eq_zero (by rw [hm.out]; exact h0)
          rw [e0]; exact Rd.nil_ _ _ _
        · obtain ⟨g, rfl, _, _, hblk⟩ := hblk6 h0
          exact hblk.rd (wds_digs _)
      have HD0 : Hid (wd (digs gk) 0 = gk) := Lib.hid (by have := wd_nat (digs gk) 0; rw [dg_one hm.out (by omega)] at this; exact this)
      have hgk : gk < 4294967296 := by have := wd_lt (wds_digs gk) 0; rw [HD0.out] at this; exact this
      have hk := howng.1
      rw [length_arr, Nat.mul_one] at hk
      have hkl : k ≤ 268435456 := by
        rcases hone.out with h0 | h0
        · rw [h0] at hk; simp at hk; omega
        · have := parts_len hparts.out h0 HNp.out; omega
      have HK := Lib.hid hk
      have hown5 := own_below HOwn.out hbw
      have ht5 := HT.out.next hbw
      have HOwn5 := Lib.hid hown5
      have HT5 := Lib.hid ht5
      have HPart := Lib.hid hparts.out.1
      have hgw : Wds gs := parts_wds hparts.out
      clear hblk6 hk hown5 ht5
      go_wp2_with fail
      refine (word_any A6 (digs gk) _ c6 _ 0 _ hr6 hm.out (by omega)).mono ?_
      rintro e w3 ⟨rfl, rfl⟩
      rw [HD0.out]
      go_wp2_with fail
      have hszb := hbw.size
      refine (writeUint_any Bt nt gk (by omega) v _ _ HOwn5.out (by omega) (by omega) HT5.out).mono ?_
      rintro e w3 ⟨v3, rfl, hown3, hb3, hk3⟩
      have HDL : (Lib.decDigits gk).length ≤ 10 := dec_len 9 gk (by simp only [Nat.reduceAdd, Nat.reducePow]; omega)
      obtain ⟨D, hD⟩ : ∃ D, D = (Lib.decDigits gk).length := ⟨_, rfl⟩
      rw [← hD] at HDL hown3
      clear hD
      obtain ⟨A5, c5, rfl, hgr⟩ := own_gr howng
      have hgr3 := hgr.others hk3 (by decide)
      have hb6 : Below Bt w w3 := (hbw.mono hBt).trans hb3
      clear hgr howng hk3 hb3 hb1 hr1 hg1 HOwn HOwn5 HT HT5 hr6
      rw [← byteCells_append] at hown3
      go_wp2_with fail
      go_loopw [0, 7] (fun tv iv wr' => ∃ (i : Int) (q : Nat), -1 ≤ i ∧ i < k ∧ iv = .int .i64 i ∧ (q : Int) + 9 * (i + 1) = nt + D + 9 * k ∧
          wr'.ownsRow Bt 5 1 tv q (Lib.byteCells (l ++ Lib.decDigits gk ++ tl (gs.drop (i + 1).toNat))) ∧ Below Bt w wr' ∧ Gr 46 wr' A5 gs) (fun _ iv _ => (intOf iv + 1).toNat)
      case atStart =>
        refine ⟨(k : Int) - 1, nt + D, by omega, by omega, rfl, by omega, ?_, ?_, ?_⟩
        · rw [show ((k : Int) - 1 + 1).toNat = k by omega, List.drop_of_length_le (by rw [HK.out]; exact Nat.le_refl _), tl_nil, List.append_nil]
          exact hown3
        · exact hb6
        · exact hgr3
      case round =>
        obtain ⟨i, q, hi0, hi1, rfl, hq, hown4, hb7, hgr4⟩ := hrel
        clear hown3 hb6 hgr3
        by_cases hi : 0 ≤ i
        · obtain ⟨j, rfl⟩ := Int.eq_ofNat_of_zero_le hi
          rw [show ((j : Int) + 1).toNat = j + 1 by omega] at hown4
          obtain ⟨b, off, rfl, hb, hcell, hlt⟩ := (hgr4.rd hgw).at_ (k := j) (by rw [HK.out]; omega)
          have HTL := Lib.hid (tl_drop gs (j := j) (by rw [HK.out]; omega))
          have hszc := hb7.size
          obtain ⟨G, hG⟩ : ∃ G, G = dg gs j := ⟨_, rfl⟩
          rw [← hG] at HTL hcell hlt
          clear hG hi
          go_wp2_with fail
          refine (appendGroup_any Bt G _ u0 q _ hown4 (by omega) (by omega) (by omega)).mono ?_
          rintro e w4 ⟨v4, rfl, hown5, hb8, hk8⟩
          go_wp2_with fail
          go_roundw
          case rel =>
            refine ⟨(j : Int) - 1, q + 9, by omega, by omega, rfl, by omega, ?_, hb7.trans hb8, hgr4.others hk8 (by decide)⟩
            rw [show ((j : Int) - 1 + 1).toNat = j by omega, HTL.out, ← List.append_assoc]
            exact hown5
          case measure => simp [intOf]
        · obtain rfl : i = -1 := by omega
          have HD : Hid (Lib.decDigits gk ++ tl (gs.drop (-1 + 1 : Int).toNat) = Lib.decDigits N) := Lib.hid (by rw [HPart.out]; rfl)
          go_wp2_with fail
          go_ret
          refine ⟨u0, rfl, ⟨q, ?_⟩, hb7⟩
          rw [← HD.out, ← List.append_assoc]
          exact hown4
end Go.Proofs.YtobffffcihlkbaaDoor
