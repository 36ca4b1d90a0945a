/- The reference of fractions: Grid. -/
import Derived.Test.YtbihljnjaondcaaGreatDoorFlowq
namespace Go.Proofs.YtbihljnjaondcaaGreatDoor
open Go Go.RowKit Lw Flow
section
variable {W0 w : World} {U : List Box} {Ps : List (World → Prop)}
theorem two_lt {j : Nat} (h : j ≤ 256) : (((2 ^ j : Nat) : Int)).natAbs < pw 9 := by
  rw [Int.natAbs_natCast]
  exact Nat.lt_of_le_of_lt (Nat.pow_le_pow_right (by decide) h) (by decide +kernel)
theorem FI.tight2 {v : Value} {j k : Nat} {w : World} (h : FI v (((2 ^ j : Nat) : Int) + ((2 ^ j : Nat) : Int)) k w) (hj : j + 1 ≤ 256) : FI v ((2 ^ (j + 1) : Nat) : Int) 9 w := by
  have e : (((2 ^ j : Nat) : Int) + ((2 ^ j : Nat) : Int)) = ((2 ^ (j + 1) : Nat) : Int) := by rw [Nat.pow_succ]; omega
  rw [e] at h
  exact Opd.tight h (two_lt hj)
theorem two_pos (m : Nat) : (((2 ^ m : Nat) : Int)) ≠ 0 := by
  have := Nat.two_pow_pos m
  omega
set_option maxRecDepth 100000 in
set_option maxHeartbeats 400000 in
theorem rfgrid_c (HT : Tz W0) (HB : Tab W0) (HS : St W0 U Ps w) {m2 : Nat} {s1 : Bool} {A1 : Option Addr} {n1 c1 : Nat} {B1 : Option Addr} {m1 d1 : Nat} {q1 : Rat} {k1 : Nat} {b1 : Bool} (f1 : FV (.agg #[.bool s1, .slice A1 n1 c1, .slice B1 m1 d1]) q1 k1 b1 w) (hk : k1 ≤ 1000) (hm : m2 ≤ 256) : CallsV Tryz.prog 18 [.agg #[.bool s1, .slice A1 n1 c1, .slice B1 m1 d1], .int .i64 (m2 : Int)] w (AnQE W0 U Ps (Rat.divInt (q1.num * ((2 ^ m2 : Nat) : Int) / (q1.den : Int)) ((2 ^ m2 : Nat) : Int)) (k1 + 60) (.int .i64 0)) := by
  have HS := HS.add (FV.stable _ _ _ _) f1
  clear f1
  refine enter0 Tryz.func18 rfl Tryz.ntmps18 rfl ?_
  refine JC.seq ?_
  refine JC.region ?_
  refine JL.box (vs := [.bool s1, .slice A1 n1 c1, .slice B1 m1 d1]) HS rfl rfl rfl rfl (fun g1 w1 HS => ?_)
  refine JL.alloc (vs := [.bool false, .slice none 0 0, .slice none 0 0]) HS rfl Tryz.zeroValue24 rfl rfl (fun g2 w2 HS => ?_)
  refine JL.val (v := .int .i64 0) rfl rfl rfl (fun a ha => run_assign (ha.ev rfl)) ?_
  refine JL.next (fun _ _ h => h) ?_
  refine JC.seq ?_
  refine JC.seq ?_
  refine JC.region ?_
  refine JL.val (v := .int .i64 (m2 : Int)) rfl rfl rfl (fun a ha => run_move (ha.ev rfl)) ?_
  refine JL.val (v := .bool false) rfl rfl rfl (fun a ha => run_lss (ha.ev rfl) (ha.ev rfl) (decide_eq_false (by omega))) ?_
  refine JL.val (v := .bool false) rfl rfl rfl (fun a ha => run_move (ha.ev rfl)) ?_
  refine JL.valg (v := .int .i64 (m2 : Int)) rfl rfl rfl rfl rfl rfl rfl (fun a ha => run_move (ha.ev rfl)) ?_
  refine JL.valg (v := .bool false) rfl rfl rfl rfl rfl rfl rfl (fun a ha => run_gtr (ha.ev rfl) (ha.ev rfl) (decide_eq_false (by omega))) ?_
  refine JL.val (v := .bool false) rfl rfl rfl (fun a ha => run_pick_f (ha.ev rfl) (ha.ev rfl)) ?_
  refine JL.next (fun _ _ h => h) ?_
  refine JC.cond_f rfl ?_
  refine JC.next_skip (fun _ _ h => h) ?_
  refine JC.seq ?_
  refine JC.region ?_
  refine JL.call rfl rfl Tryz.call96 (rfone_c HT HB HS  ) (fun v3 w3 HR3 => ?_)
  obtain ⟨s3, A3, n3, c3, rfl, HS⟩ := HR3
  refine JL.alloc (vs := [.bool false, .slice none 0 0]) HS rfl Tryz.zeroValue39 rfl rfl (fun g4 w4 HS => ?_)
  refine JL.store HS rfl rfl (i := 0) rfl Tryz.sizeOf39 rfl rfl rfl (vs' := [.bool s3, .slice A3 n3 c3]) rfl rfl (fun w5 HS => ?_)
  refine JL.next (fun _ _ h => h) ?_
  refine JC.seq ?_
  refine JC.seq ?_
  refine JC.region ?_
  refine JL.val (v := .int .i64 (m2 : Int)) rfl rfl rfl (fun a ha => run_move (ha.ev rfl)) ?_
  refine JL.val (v := .int .i64 0) rfl rfl rfl (fun a ha => run_move (ha.ev rfl)) ?_
  refine JL.next (fun _ _ h => h) ?_
  refine JC.block ?_
  refine JC.sub (T' := [(0, .agg #[.bool s1, .slice A1 n1 c1, .slice B1 m1 d1]), (1, .int .i64 (m2 : Int)), (2, .pointer (some ⟨g1, 0, none⟩)), (4, .pointer (some ⟨g2, 0, none⟩)), (5, .int .i64 0), (6, .pointer (some ⟨g4, 0, none⟩)), (12, .int .i64 (m2 : Int)), (13, .bool false), (14, .bool false), (15, .int .i64 (m2 : Int)), (16, .bool false), (17, .bool false), (19, .agg #[.bool s3, .slice A3 n3 c3]), (20, .int .i64 (m2 : Int)), (21, .int .i64 0)]) (sub_cons rfl (sub_cons rfl (sub_cons rfl (sub_cons rfl (sub_cons rfl (sub_cons rfl (sub_cons rfl (sub_cons rfl (sub_cons rfl (sub_cons rfl (sub_cons rfl (sub_cons rfl (sub_cons rfl (sub_cons rfl (sub_cons rfl (sub_nil)))))))))))))))) ?_
  refine JC.loop (ι := Nat × Bool × Option Addr × Nat × Nat) (fun ⟨j, s, A, n, c⟩ => m2 - j) (fun ⟨j, s, A, n, c⟩ => [(0, .agg #[.bool s1, .slice A1 n1 c1, .slice B1 m1 d1]), (1, .int .i64 (m2 : Int)), (2, .pointer (some ⟨g1, 0, none⟩)), (4, .pointer (some ⟨g2, 0, none⟩)), (5, .int .i64 0), (6, .pointer (some ⟨g4, 0, none⟩)), (12, .int .i64 (m2 : Int)), (13, .bool false), (14, .bool false), (15, .int .i64 (m2 : Int)), (16, .bool false), (17, .bool false), (19, .agg #[.bool s3, .slice A3 n3 c3]), (20, .int .i64 (m2 : Int)), (21, .int .i64 (j : Int))]) (fun ⟨j, s, A, n, c⟩ w => (j ≤ m2) ∧ St W0 (⟨g4, 39, [.bool s, .slice A n c]⟩ :: ⟨g2, 24, [.bool false, .slice none 0 0, .slice none 0 0]⟩ :: ⟨g1, 24, [.bool s1, .slice A1 n1 c1, .slice B1 m1 d1]⟩ :: U) (FI (.agg #[.bool s, .slice A n c]) ((2 ^ j : Nat) : Int) 9 :: FI (.agg #[.bool s3, .slice A3 n3 c3]) 1 2 :: FV (.agg #[.bool s1, .slice A1 n1 c1, .slice B1 m1 d1]) q1 k1 b1 :: Ps) w) ?_ (0, s3, A3, n3, c3) _ ⟨Nat.zero_le _, HS.map (List.mem_of_getElem? (i := 0) rfl) (fun _ h => h.as rfl (by decide))⟩
  skip
  rintro ⟨j, s, A, n, c⟩ wl1 ⟨hinv1, HS⟩
  refine JC.sub (T' := [(0, .agg #[.bool s1, .slice A1 n1 c1, .slice B1 m1 d1]), (1, .int .i64 (m2 : Int)), (2, .pointer (some ⟨g1, 0, none⟩)), (4, .pointer (some ⟨g2, 0, none⟩)), (5, .int .i64 0), (6, .pointer (some ⟨g4, 0, none⟩)), (12, .int .i64 (m2 : Int)), (13, .bool false), (14, .bool false), (15, .int .i64 (m2 : Int)), (16, .bool false), (17, .bool false), (19, .agg #[.bool s3, .slice A3 n3 c3]), (20, .int .i64 (m2 : Int)), (21, .int .i64 (j : Int))]) (fun _ _ h => h) ?_
  have HS : St W0 (⟨g4, 39, [.bool s, .slice A n c]⟩ :: ⟨g2, 24, [.bool false, .slice none 0 0, .slice none 0 0]⟩ :: ⟨g1, 24, [.bool s1, .slice A1 n1 c1, .slice B1 m1 d1]⟩ :: U) (FI (.agg #[.bool s, .slice A n c]) ((2 ^ j : Nat) : Int) 9 :: FI (.agg #[.bool s3, .slice A3 n3 c3]) 1 2 :: FV (.agg #[.bool s1, .slice A1 n1 c1, .slice B1 m1 d1]) q1 k1 b1 :: Ps) wl1 := HS
  refine JC.seq ?_
  refine JC.region ?_
  refine JL.val (v := .bool (decide ((j : Int) < (m2 : Int)))) rfl rfl rfl (fun a ha => run_lss (ha.ev rfl) (ha.ev rfl) rfl) ?_
  refine JL.next (fun _ _ h => h) ?_
  refine JC.seq ?_
  refine JC.cond rfl (fun hb6 => ?_) (fun hb6 => ?_)
  · skip
    have hd6 := of_decide_eq_true hb6
    refine JC.next_skip (fun _ _ h => h) ?_
    refine JC.seq ?_
    refine JC.block ?_
    refine JC.region ?_
    refine JL.load (.agg #[.bool s, .slice A n c]) HS 0 rfl rfl rfl Tryz.isAgg39 Tryz.sizeOf39 rfl rfl ?_
    refine JL.load (.agg #[.bool s, .slice A n c]) HS 0 rfl rfl rfl Tryz.isAgg39 Tryz.sizeOf39 rfl rfl ?_
    refine JL.call rfl rfl Tryz.call97 (radd_c HT HB HS (HS.at_ 0 rfl) (HS.at_ 0 rfl) (by omega)) (fun v7 w7 HR7 => ?_)
    obtain ⟨s7, A7, n7, c7, rfl, HS⟩ := HR7
    refine JL.store HS rfl rfl (i := 0) rfl Tryz.sizeOf39 rfl rfl rfl (vs' := [.bool s7, .slice A7 n7 c7]) rfl rfl (fun w8 HS => ?_)
    refine JL.endBlock (fun _ _ h => h) ?_
    refine JC.region ?_
    refine JL.val (v := .int .i64 ((j + 1 : Nat) : Int)) rfl rfl rfl (fun a ha => run_add (ha.ev rfl) (ha.ev rfl) (by rw [IntKind.wrap_i64]; omega)) ?_
    refine JL.val (v := .int .i64 ((j + 1 : Nat) : Int)) rfl rfl rfl (fun a ha => run_move (ha.ev rfl)) ?_
    exact JL.round (j + 1, s7, A7, n7, c7) (by dsimp only; omega) (sub_cons rfl (sub_cons rfl (sub_cons rfl (sub_cons rfl (sub_cons rfl (sub_cons rfl (sub_cons rfl (sub_cons rfl (sub_cons rfl (sub_cons rfl (sub_cons rfl (sub_cons rfl (sub_cons rfl (sub_cons rfl (sub_cons rfl (sub_nil)))))))))))))))) ⟨by omega, (HS.out 0 2 0 rfl rfl rfl (fun _ h => FI.tight2 h (by omega)))⟩
  · skip
    have hd6 := of_decide_eq_false hb6
    obtain rfl : m2 = j := by omega
    refine JC.exit (fun _ _ h => h) (fun _ _ h => h) ?_
    refine JC.seq ?_
    refine JC.region ?_
    refine JL.load (.agg #[.bool s1, .slice A1 n1 c1, .slice B1 m1 d1]) HS 2 rfl rfl rfl Tryz.isAgg24 Tryz.sizeOf24 rfl rfl ?_
    refine JL.call rfl rfl Tryz.call98 (rfparts_c HT HB HS (HS.at_ 2 rfl) (by omega)) (fun v9 w9 HR9 => ?_)
    obtain ⟨s9a, A9a, n9a, c9a, s9b, A9b, n9b, c9b, rfl, HS⟩ := HR9
    refine JL.val (v := .tuple #[.agg #[.bool s9a, .slice A9a n9a c9a], .agg #[.bool s9b, .slice A9b n9b c9b]]) rfl rfl rfl (fun a ha => run_move (ha.ev rfl)) ?_
    refine JL.val (v := .agg #[.bool s9a, .slice A9a n9a c9a]) rfl rfl rfl (fun a ha => run_extract (ha.ev rfl) rfl) ?_
    refine JL.val (v := .agg #[.bool s9b, .slice A9b n9b c9b]) rfl rfl rfl (fun a ha => run_extract (ha.ev rfl) rfl) ?_
    refine JL.alloc (vs := [.bool false, .slice none 0 0]) HS rfl Tryz.zeroValue39 rfl rfl (fun g10 w10 HS => ?_)
    refine JL.alloc (vs := [.bool false, .slice none 0 0]) HS rfl Tryz.zeroValue39 rfl rfl (fun g11 w11 HS => ?_)
    refine JL.store HS rfl rfl (i := 1) rfl Tryz.sizeOf39 rfl rfl rfl (vs' := [.bool s9a, .slice A9a n9a c9a]) rfl rfl (fun w12 HS => ?_)
    refine JL.store HS rfl rfl (i := 0) rfl Tryz.sizeOf39 rfl rfl rfl (vs' := [.bool s9b, .slice A9b n9b c9b]) rfl rfl (fun w13 HS => ?_)
    refine JL.next (fun _ _ h => h) ?_
    refine JC.cut (ι := Bool × Option Addr × Nat × Nat × Bool × Option Addr × Nat × Nat × Bool × Option Addr × Nat × Nat × Nat × Nat) (fun ⟨s14002, A14002, n14002, c14002, s14004a, A14004a, n14004a, c14004a, s14004b, A14004b, n14004b, c14004b, g14009, g14010⟩ => [(0, .agg #[.bool s1, .slice A1 n1 c1, .slice B1 m1 d1]), (1, .int .i64 (m2 : Int)), (2, .pointer (some ⟨g1, 0, none⟩)), (4, .pointer (some ⟨g2, 0, none⟩)), (5, .int .i64 0), (6, .pointer (some ⟨g4, 0, none⟩)), (7, .pointer (some ⟨g10, 0, none⟩)), (8, .pointer (some ⟨g11, 0, none⟩)), (9, .pointer (some ⟨g14009, 0, none⟩)), (10, .pointer (some ⟨g14010, 0, none⟩)), (11, .int .i64 0), (12, .int .i64 (m2 : Int)), (13, .bool false), (14, .bool false), (15, .int .i64 (m2 : Int)), (16, .bool false), (17, .bool false), (19, .agg #[.bool s3, .slice A3 n3 c3]), (20, .int .i64 (m2 : Int)), (21, .int .i64 (m2 : Int)), (22, .bool (decide ((m2 : Int) < (m2 : Int)))), (27, .tuple #[.agg #[.bool s9a, .slice A9a n9a c9a], .agg #[.bool s9b, .slice A9b n9b c9b]]), (28, .agg #[.bool s1, .slice A1 n1 c1, .slice B1 m1 d1]), (29, .tuple #[.agg #[.bool s9a, .slice A9a n9a c9a], .agg #[.bool s9b, .slice A9b n9b c9b]]), (30, .agg #[.bool s9a, .slice A9a n9a c9a]), (31, .agg #[.bool s9b, .slice A9b n9b c9b]), (32, .tuple #[.agg #[.bool s14004a, .slice A14004a n14004a c14004a], .agg #[.bool s14004b, .slice A14004b n14004b c14004b], .int .i64 0]), (33, .agg #[.bool s9a, .slice A9a n9a c9a]), (34, .agg #[.bool s, .slice A n c]), (35, .agg #[.bool s14002, .slice A14002 n14002 c14002]), (36, .agg #[.bool s9b, .slice A9b n9b c9b]), (37, .tuple #[.agg #[.bool s14004a, .slice A14004a n14004a c14004a], .agg #[.bool s14004b, .slice A14004b n14004b c14004b], .int .i64 0]), (38, .agg #[.bool s14004a, .slice A14004a n14004a c14004a]), (39, .agg #[.bool s14004b, .slice A14004b n14004b c14004b]), (40, .int .i64 0)]) (fun ⟨s14002, A14002, n14002, c14002, s14004a, A14004a, n14004a, c14004a, s14004b, A14004b, n14004b, c14004b, g14009, g14010⟩ w => St W0 (⟨g14010, 39, [.bool s14004b, .slice A14004b n14004b c14004b]⟩ :: ⟨g14009, 39, [.bool s14004a, .slice A14004a n14004a c14004a]⟩ :: ⟨g11, 39, [.bool s9b, .slice A9b n9b c9b]⟩ :: ⟨g10, 39, [.bool s9a, .slice A9a n9a c9a]⟩ :: ⟨g4, 39, [.bool s, .slice A n c]⟩ :: ⟨g2, 24, [.bool false, .slice none 0 0, .slice none 0 0]⟩ :: ⟨g1, 24, [.bool s1, .slice A1 n1 c1, .slice B1 m1 d1]⟩ :: U) (FI (.agg #[.bool s14004a, .slice A14004a n14004a c14004a]) ((q1.num * ((2 ^ m2 : Nat) : Int)) / (q1.den : Int)) (((k1 + 2) + 9 + 1) + 1) :: FI (.agg #[.bool s14004b, .slice A14004b n14004b c14004b]) ((q1.num * ((2 ^ m2 : Nat) : Int)) % (q1.den : Int)) (k1 + 2) :: FI (.agg #[.bool s14002, .slice A14002 n14002 c14002]) (q1.num * ((2 ^ m2 : Nat) : Int)) ((k1 + 2) + 9 + 1) :: FI (.agg #[.bool s9a, .slice A9a n9a c9a]) q1.num (k1 + 2) :: FI (.agg #[.bool s9b, .slice A9b n9b c9b]) (q1.den : Int) (k1 + 2) :: FI (.agg #[.bool s, .slice A n c]) ((2 ^ m2 : Nat) : Int) 9 :: FI (.agg #[.bool s3, .slice A3 n3 c3]) 1 2 :: FV (.agg #[.bool s1, .slice A1 n1 c1, .slice B1 m1 d1]) q1 k1 b1 :: Ps) w) ?_ ?_
    · skip
      refine JC.draw HS [11, 12] (by kernel_rfl) (fun w15 HS => ?_)
      refine JR.load (.agg #[.bool s9a, .slice A9a n9a c9a]) 0 1 rfl (by kernel_rfl) (by kernel_rfl) (by kernel_rfl) (by kernel_rfl) (fun _ _ _ h => h) rfl (fun _ b hb => HS.box b (hb)) (fun s hs => by simp only [List.mem_cons, List.not_mem_nil, or_false] at hs; rcases hs with rfl | rfl <;> rfl) rfl rfl Tryz.isAgg39 Tryz.sizeOf39 rfl rfl (listed' := #[true, false, false, false, false, false, false, false, false, false, false, false, false, false]) rfl ?_
      refine JR.load (.agg #[.bool s, .slice A n c]) 1 2 rfl (by kernel_rfl) (by kernel_rfl) (by kernel_rfl) (by kernel_rfl) (fun _ _ _ h => h) rfl (fun _ b hb => HS.box b (hb)) (fun s hs => by simp only [List.mem_cons, List.not_mem_nil, or_false] at hs; rcases hs with rfl | rfl <;> rfl) rfl rfl Tryz.isAgg39 Tryz.sizeOf39 rfl rfl (listed' := #[true, true, false, false, false, false, false, false, false, false, false, false, false, false]) rfl ?_
      refine JR.load (.agg #[.bool s9b, .slice A9b n9b c9b]) 3 0 rfl (by kernel_rfl) (by kernel_rfl) (by kernel_rfl) (by kernel_rfl) (fun _ _ _ h => h) rfl (fun _ b hb => HS.box b (hb)) (fun s hs => by simp only [List.mem_cons, List.not_mem_nil, or_false] at hs; rcases hs with rfl | rfl <;> rfl) rfl rfl Tryz.isAgg39 Tryz.sizeOf39 rfl rfl (listed' := #[true, true, false, true, false, false, false, false, false, false, false, false, false, false]) rfl ?_
      refine JR.any [2, 9, 10] (by kernel_rfl) rfl ?_
      refine AllR.call rfl rfl rfl Tryz.call100 (rmul_c HT HB HS (HS.at_ 0 rfl) (HS.at_ 2 rfl) (by omega)) (listed' := #[true, true, true, true, false, false, false, false, false, false, false, false, false, false]) rfl (fun v14002 w14002 HR14002 => ?_) ?_
      · skip
        obtain ⟨s14002, A14002, n14002, c14002, rfl, HS⟩ := HR14002
        refine ⟨(fun _ b hb => HS.box b (hb)), ?_⟩
        refine JR.any [4, 9, 10] (by kernel_rfl) rfl ?_
        refine AllR.call rfl rfl rfl Tryz.call99 (rdiv_c HT HB HS (HS.at_ 0 rfl) (HS.at_ 2 rfl) (by omega) (den_ne _)) (listed' := #[true, true, true, true, true, false, false, false, false, false, false, false, false, false]) rfl (fun v14004 w14004 HR14004 => ?_) ?_
        · skip
          obtain ⟨s14004a, A14004a, n14004a, c14004a, s14004b, A14004b, n14004b, c14004b, rfl, HS⟩ := HR14004
          refine ⟨(fun _ b hb => HS.box b (hb)), ?_⟩
          refine JR.val (v := .tuple #[.agg #[.bool s14004a, .slice A14004a n14004a c14004a], .agg #[.bool s14004b, .slice A14004b n14004b c14004b], .int .i64 0]) 5 rfl (by kernel_rfl) (by kernel_rfl) (by kernel_rfl) (by kernel_rfl) (fun _ _ _ h => h) rfl rfl rfl (fun _ b hb => HS.box b (hb)) (fun a ha w => run_move (ha.ev rfl)) (listed' := #[true, true, true, true, true, true, false, false, false, false, false, false, false, false]) rfl ?_
          refine JR.val (v := .agg #[.bool s14004a, .slice A14004a n14004a c14004a]) 6 rfl (by kernel_rfl) (by kernel_rfl) (by kernel_rfl) (by kernel_rfl) (fun _ _ _ h => h) rfl rfl rfl (fun _ b hb => HS.box b (hb)) (fun a ha w => run_extract (ha.ev rfl) rfl) (listed' := #[true, true, true, true, true, true, true, false, false, false, false, false, false, false]) rfl ?_
          refine JR.val (v := .agg #[.bool s14004b, .slice A14004b n14004b c14004b]) 7 rfl (by kernel_rfl) (by kernel_rfl) (by kernel_rfl) (by kernel_rfl) (fun _ _ _ h => h) rfl rfl rfl (fun _ b hb => HS.box b (hb)) (fun a ha w => run_extract (ha.ev rfl) rfl) (listed' := #[true, true, true, true, true, true, true, true, false, false, false, false, false, false]) rfl ?_
          refine JR.val (v := .int .i64 0) 8 rfl (by kernel_rfl) (by kernel_rfl) (by kernel_rfl) (by kernel_rfl) (fun _ _ _ h => h) rfl rfl rfl (fun _ b hb => HS.box b (hb)) (fun a ha w => run_extract (ha.ev rfl) rfl) (listed' := #[true, true, true, true, true, true, true, true, true, false, false, false, false, false]) rfl ?_
          refine JR.any [9, 10] (by kernel_rfl) rfl ?_
          refine AllR.alloc (vs := [.bool false, .slice none 0 0]) HS rfl rfl Tryz.zeroValue39 rfl rfl (listed' := #[true, true, true, true, true, true, true, true, true, true, false, false, false, false]) rfl (fun g14009 w14009 HS => ?_) ?_
          · skip
            refine ⟨(fun _ b hb => HS.box b (.tail _ (hb))), ?_⟩
            refine JR.any [10] (by kernel_rfl) rfl ?_
            refine AllR.alloc (vs := [.bool false, .slice none 0 0]) HS rfl rfl Tryz.zeroValue39 rfl rfl (listed' := #[true, true, true, true, true, true, true, true, true, true, true, false, false, false]) rfl (fun g14010 w14010 HS => ?_) AllR.nil
            refine ⟨(fun _ b hb => HS.box b (.tail _ (.tail _ (hb)))), ?_⟩
            refine JR.any [11] (by kernel_rfl) rfl ?_
            refine AllR.store HS rfl rfl rfl 1 rfl Tryz.sizeOf39 rfl rfl rfl (vs' := [.bool s14004a, .slice A14004a n14004a c14004a]) rfl rfl (listed' := #[true, true, true, true, true, true, true, true, true, true, true, true, false, false]) rfl (fun w14011 HS => ?_) AllR.nil
            refine ⟨(fun h => absurd (h 11 (.head _)) (by decide)), ?_⟩
            refine JR.any [12] (by kernel_rfl) rfl ?_
            refine AllR.store HS rfl rfl rfl 0 rfl Tryz.sizeOf39 rfl rfl rfl (vs' := [.bool s14004b, .slice A14004b n14004b c14004b]) rfl rfl (listed' := #[true, true, true, true, true, true, true, true, true, true, true, true, true, false]) rfl (fun w14012 HS => ?_) AllR.nil
            refine ⟨(fun h => absurd (h 11 (.head _)) (by decide)), ?_⟩
            refine JR.val (v := .int .i64 0) 13 rfl (by kernel_rfl) (by kernel_rfl) (by kernel_rfl) (by kernel_rfl) (fun _ _ _ h => h) rfl rfl rfl (fun h => absurd (h 11 (.head _)) (by decide)) (fun a ha w => run_assign (ha.ev rfl)) (listed' := #[true, true, true, true, true, true, true, true, true, true, true, true, true, true]) rfl ?_
            exact JR.meet (by kernel_rfl) (s14002, A14002, n14002, c14002, s14004a, A14004a, n14004a, c14004a, s14004b, A14004b, n14004b, c14004b, g14009, g14010) (sub_cons rfl (sub_cons rfl (sub_cons rfl (sub_cons rfl (sub_cons rfl (sub_cons rfl (sub_cons rfl (sub_cons rfl (sub_cons rfl (sub_cons rfl (sub_cons rfl (sub_cons rfl (sub_cons rfl (sub_cons rfl (sub_cons rfl (sub_cons rfl (sub_cons rfl (sub_cons rfl (sub_cons rfl (sub_cons rfl (sub_cons rfl (sub_cons rfl (sub_cons rfl (sub_cons rfl (sub_cons rfl (sub_cons rfl (sub_cons rfl (sub_cons rfl (sub_cons rfl (sub_cons rfl (sub_cons rfl (sub_cons rfl (sub_cons rfl (sub_cons rfl (sub_cons rfl (sub_nil)))))))))))))))))))))))))))))))))))) HS
          refine AllR.alloc (vs := [.bool false, .slice none 0 0]) HS rfl rfl Tryz.zeroValue39 rfl rfl (listed' := #[true, true, true, true, true, true, true, true, true, false, true, false, false, false]) rfl (fun g14010 w14010 HS => ?_) AllR.nil
          refine ⟨(fun _ b hb => HS.box b (.tail _ (hb))), ?_⟩
          refine JR.any [9] (by kernel_rfl) rfl ?_
          refine AllR.alloc (vs := [.bool false, .slice none 0 0]) HS rfl rfl Tryz.zeroValue39 rfl rfl (listed' := #[true, true, true, true, true, true, true, true, true, true, true, false, false, false]) rfl (fun g14009 w14009 HS => ?_) AllR.nil
          refine ⟨(fun _ b hb => HS.box b (.tail _ (.tail _ (hb)))), ?_⟩
          refine JR.any [11] (by kernel_rfl) rfl ?_
          refine AllR.store HS rfl rfl rfl 0 rfl Tryz.sizeOf39 rfl rfl rfl (vs' := [.bool s14004a, .slice A14004a n14004a c14004a]) rfl rfl (listed' := #[true, true, true, true, true, true, true, true, true, true, true, true, false, false]) rfl (fun w14011 HS => ?_) AllR.nil
          refine ⟨(fun h => absurd (h 11 (.head _)) (by decide)), ?_⟩
          refine JR.any [12] (by kernel_rfl) rfl ?_
          refine AllR.store HS rfl rfl rfl 1 rfl Tryz.sizeOf39 rfl rfl rfl (vs' := [.bool s14004b, .slice A14004b n14004b c14004b]) rfl rfl (listed' := #[true, true, true, true, true, true, true, true, true, true, true, true, true, false]) rfl (fun w14012 HS => ?_) AllR.nil
          refine ⟨(fun h => absurd (h 11 (.head _)) (by decide)), ?_⟩
          refine JR.val (v := .int .i64 0) 13 rfl (by kernel_rfl) (by kernel_rfl) (by kernel_rfl) (by kernel_rfl) (fun _ _ _ h => h) rfl rfl rfl (fun h => absurd (h 11 (.head _)) (by decide)) (fun a ha w => run_assign (ha.ev rfl)) (listed' := #[true, true, true, true, true, true, true, true, true, true, true, true, true, true]) rfl ?_
          exact JR.meet (by kernel_rfl) (s14002, A14002, n14002, c14002, s14004a, A14004a, n14004a, c14004a, s14004b, A14004b, n14004b, c14004b, g14009, g14010) (sub_cons rfl (sub_cons rfl (sub_cons rfl (sub_cons rfl (sub_cons rfl (sub_cons rfl (sub_cons rfl (sub_cons rfl (sub_cons rfl (sub_cons rfl (sub_cons rfl (sub_cons rfl (sub_cons rfl (sub_cons rfl (sub_cons rfl (sub_cons rfl (sub_cons rfl (sub_cons rfl (sub_cons rfl (sub_cons rfl (sub_cons rfl (sub_cons rfl (sub_cons rfl (sub_cons rfl (sub_cons rfl (sub_cons rfl (sub_cons rfl (sub_cons rfl (sub_cons rfl (sub_cons rfl (sub_cons rfl (sub_cons rfl (sub_cons rfl (sub_cons rfl (sub_cons rfl (sub_nil)))))))))))))))))))))))))))))))))))) (HS.perm (.swap _ _ _))
        refine AllR.alloc (vs := [.bool false, .slice none 0 0]) HS rfl rfl Tryz.zeroValue39 rfl rfl (listed' := #[true, true, true, true, false, false, false, false, false, true, false, false, false, false]) rfl (fun g14009 w14009 HS => ?_) ?_
        · skip
          refine ⟨(fun _ b hb => HS.box b (.tail _ (hb))), ?_⟩
          refine JR.any [4, 10] (by kernel_rfl) rfl ?_
          refine AllR.call rfl rfl rfl Tryz.call99 (rdiv_c HT HB HS (HS.at_ 0 rfl) (HS.at_ 2 rfl) (by omega) (den_ne _)) (listed' := #[true, true, true, true, true, false, false, false, false, true, false, false, false, false]) rfl (fun v14004 w14004 HR14004 => ?_) ?_
          · skip
            obtain ⟨s14004a, A14004a, n14004a, c14004a, s14004b, A14004b, n14004b, c14004b, rfl, HS⟩ := HR14004
            refine ⟨(fun _ b hb => HS.box b (.tail _ (hb))), ?_⟩
            refine JR.val (v := .tuple #[.agg #[.bool s14004a, .slice A14004a n14004a c14004a], .agg #[.bool s14004b, .slice A14004b n14004b c14004b], .int .i64 0]) 5 rfl (by kernel_rfl) (by kernel_rfl) (by kernel_rfl) (by kernel_rfl) (fun _ _ _ h => h) rfl rfl rfl (fun _ b hb => HS.box b (.tail _ (hb))) (fun a ha w => run_move (ha.ev rfl)) (listed' := #[true, true, true, true, true, true, false, false, false, true, false, false, false, false]) rfl ?_
            refine JR.val (v := .agg #[.bool s14004a, .slice A14004a n14004a c14004a]) 6 rfl (by kernel_rfl) (by kernel_rfl) (by kernel_rfl) (by kernel_rfl) (fun _ _ _ h => h) rfl rfl rfl (fun _ b hb => HS.box b (.tail _ (hb))) (fun a ha w => run_extract (ha.ev rfl) rfl) (listed' := #[true, true, true, true, true, true, true, false, false, true, false, false, false, false]) rfl ?_
            refine JR.val (v := .agg #[.bool s14004b, .slice A14004b n14004b c14004b]) 7 rfl (by kernel_rfl) (by kernel_rfl) (by kernel_rfl) (by kernel_rfl) (fun _ _ _ h => h) rfl rfl rfl (fun _ b hb => HS.box b (.tail _ (hb))) (fun a ha w => run_extract (ha.ev rfl) rfl) (listed' := #[true, true, true, true, true, true, true, true, false, true, false, false, false, false]) rfl ?_
            refine JR.val (v := .int .i64 0) 8 rfl (by kernel_rfl) (by kernel_rfl) (by kernel_rfl) (by kernel_rfl) (fun _ _ _ h => h) rfl rfl rfl (fun _ b hb => HS.box b (.tail _ (hb))) (fun a ha w => run_extract (ha.ev rfl) rfl) (listed' := #[true, true, true, true, true, true, true, true, true, true, false, false, false, false]) rfl ?_
            refine JR.any [10] (by kernel_rfl) rfl ?_
            refine AllR.alloc (vs := [.bool false, .slice none 0 0]) HS rfl rfl Tryz.zeroValue39 rfl rfl (listed' := #[true, true, true, true, true, true, true, true, true, true, true, false, false, false]) rfl (fun g14010 w14010 HS => ?_) AllR.nil
            refine ⟨(fun _ b hb => HS.box b (.tail _ (.tail _ (hb)))), ?_⟩
            refine JR.any [11] (by kernel_rfl) rfl ?_
            refine AllR.store HS rfl rfl rfl 1 rfl Tryz.sizeOf39 rfl rfl rfl (vs' := [.bool s14004a, .slice A14004a n14004a c14004a]) rfl rfl (listed' := #[true, true, true, true, true, true, true, true, true, true, true, true, false, false]) rfl (fun w14011 HS => ?_) AllR.nil
            refine ⟨(fun h => absurd (h 11 (.head _)) (by decide)), ?_⟩
            refine JR.any [12] (by kernel_rfl) rfl ?_
            refine AllR.store HS rfl rfl rfl 0 rfl Tryz.sizeOf39 rfl rfl rfl (vs' := [.bool s14004b, .slice A14004b n14004b c14004b]) rfl rfl (listed' := #[true, true, true, true, true, true, true, true, true, true, true, true, true, false]) rfl (fun w14012 HS => ?_) AllR.nil
            refine ⟨(fun h => absurd (h 11 (.head _)) (by decide)), ?_⟩
            refine JR.val (v := .int .i64 0) 13 rfl (by kernel_rfl) (by kernel_rfl) (by kernel_rfl) (by kernel_rfl) (fun _ _ _ h => h) rfl rfl rfl (fun h => absurd (h 11 (.head _)) (by decide)) (fun a ha w => run_assign (ha.ev rfl)) (listed' := #[true, true, true, true, true, true, true, true, true, true, true, true, true, true]) rfl ?_
            exact JR.meet (by kernel_rfl) (s14002, A14002, n14002, c14002, s14004a, A14004a, n14004a, c14004a, s14004b, A14004b, n14004b, c14004b, g14009, g14010) (sub_cons rfl (sub_cons rfl (sub_cons rfl (sub_cons rfl (sub_cons rfl (sub_cons rfl (sub_cons rfl (sub_cons rfl (sub_cons rfl (sub_cons rfl (sub_cons rfl (sub_cons rfl (sub_cons rfl (sub_cons rfl (sub_cons rfl (sub_cons rfl (sub_cons rfl (sub_cons rfl (sub_cons rfl (sub_cons rfl (sub_cons rfl (sub_cons rfl (sub_cons rfl (sub_cons rfl (sub_cons rfl (sub_cons rfl (sub_cons rfl (sub_cons rfl (sub_cons rfl (sub_cons rfl (sub_cons rfl (sub_cons rfl (sub_cons rfl (sub_cons rfl (sub_cons rfl (sub_nil)))))))))))))))))))))))))))))))))))) HS
          refine AllR.alloc (vs := [.bool false, .slice none 0 0]) HS rfl rfl Tryz.zeroValue39 rfl rfl (listed' := #[true, true, true, true, false, false, false, false, false, true, true, false, false, false]) rfl (fun g14010 w14010 HS => ?_) AllR.nil
          refine ⟨(fun _ b hb => HS.box b (.tail _ (.tail _ (hb)))), ?_⟩
          refine JR.any [4] (by kernel_rfl) rfl ?_
          refine AllR.call rfl rfl rfl Tryz.call99 (rdiv_c HT HB HS (HS.at_ 0 rfl) (HS.at_ 2 rfl) (by omega) (den_ne _)) (listed' := #[true, true, true, true, true, false, false, false, false, true, true, false, false, false]) rfl (fun v14004 w14004 HR14004 => ?_) AllR.nil
          obtain ⟨s14004a, A14004a, n14004a, c14004a, s14004b, A14004b, n14004b, c14004b, rfl, HS⟩ := HR14004
          refine ⟨(fun _ b hb => HS.box b (.tail _ (.tail _ (hb)))), ?_⟩
          refine JR.val (v := .tuple #[.agg #[.bool s14004a, .slice A14004a n14004a c14004a], .agg #[.bool s14004b, .slice A14004b n14004b c14004b], .int .i64 0]) 5 rfl (by kernel_rfl) (by kernel_rfl) (by kernel_rfl) (by kernel_rfl) (fun _ _ _ h => h) rfl rfl rfl (fun _ b hb => HS.box b (.tail _ (.tail _ (hb)))) (fun a ha w => run_move (ha.ev rfl)) (listed' := #[true, true, true, true, true, true, false, false, false, true, true, false, false, false]) rfl ?_
          refine JR.val (v := .agg #[.bool s14004a, .slice A14004a n14004a c14004a]) 6 rfl (by kernel_rfl) (by kernel_rfl) (by kernel_rfl) (by kernel_rfl) (fun _ _ _ h => h) rfl rfl rfl (fun _ b hb => HS.box b (.tail _ (.tail _ (hb)))) (fun a ha w => run_extract (ha.ev rfl) rfl) (listed' := #[true, true, true, true, true, true, true, false, false, true, true, false, false, false]) rfl ?_
          refine JR.val (v := .agg #[.bool s14004b, .slice A14004b n14004b c14004b]) 7 rfl (by kernel_rfl) (by kernel_rfl) (by kernel_rfl) (by kernel_rfl) (fun _ _ _ h => h) rfl rfl rfl (fun _ b hb => HS.box b (.tail _ (.tail _ (hb)))) (fun a ha w => run_extract (ha.ev rfl) rfl) (listed' := #[true, true, true, true, true, true, true, true, false, true, true, false, false, false]) rfl ?_
          refine JR.val (v := .int .i64 0) 8 rfl (by kernel_rfl) (by kernel_rfl) (by kernel_rfl) (by kernel_rfl) (fun _ _ _ h => h) rfl rfl rfl (fun _ b hb => HS.box b (.tail _ (.tail _ (hb)))) (fun a ha w => run_extract (ha.ev rfl) rfl) (listed' := #[true, true, true, true, true, true, true, true, true, true, true, false, false, false]) rfl ?_
          refine JR.any [11] (by kernel_rfl) rfl ?_
          refine AllR.store HS rfl rfl rfl 1 rfl Tryz.sizeOf39 rfl rfl rfl (vs' := [.bool s14004a, .slice A14004a n14004a c14004a]) rfl rfl (listed' := #[true, true, true, true, true, true, true, true, true, true, true, true, false, false]) rfl (fun w14011 HS => ?_) AllR.nil
          refine ⟨(fun h => absurd (h 11 (.head _)) (by decide)), ?_⟩
          refine JR.any [12] (by kernel_rfl) rfl ?_
          refine AllR.store HS rfl rfl rfl 0 rfl Tryz.sizeOf39 rfl rfl rfl (vs' := [.bool s14004b, .slice A14004b n14004b c14004b]) rfl rfl (listed' := #[true, true, true, true, true, true, true, true, true, true, true, true, true, false]) rfl (fun w14012 HS => ?_) AllR.nil
          refine ⟨(fun h => absurd (h 11 (.head _)) (by decide)), ?_⟩
          refine JR.val (v := .int .i64 0) 13 rfl (by kernel_rfl) (by kernel_rfl) (by kernel_rfl) (by kernel_rfl) (fun _ _ _ h => h) rfl rfl rfl (fun h => absurd (h 11 (.head _)) (by decide)) (fun a ha w => run_assign (ha.ev rfl)) (listed' := #[true, true, true, true, true, true, true, true, true, true, true, true, true, true]) rfl ?_
          exact JR.meet (by kernel_rfl) (s14002, A14002, n14002, c14002, s14004a, A14004a, n14004a, c14004a, s14004b, A14004b, n14004b, c14004b, g14009, g14010) (sub_cons rfl (sub_cons rfl (sub_cons rfl (sub_cons rfl (sub_cons rfl (sub_cons rfl (sub_cons rfl (sub_cons rfl (sub_cons rfl (sub_cons rfl (sub_cons rfl (sub_cons rfl (sub_cons rfl (sub_cons rfl (sub_cons rfl (sub_cons rfl (sub_cons rfl (sub_cons rfl (sub_cons rfl (sub_cons rfl (sub_cons rfl (sub_cons rfl (sub_cons rfl (sub_cons rfl (sub_cons rfl (sub_cons rfl (sub_cons rfl (sub_cons rfl (sub_cons rfl (sub_cons rfl (sub_cons rfl (sub_cons rfl (sub_cons rfl (sub_cons rfl (sub_cons rfl (sub_nil)))))))))))))))))))))))))))))))))))) HS
        refine AllR.alloc (vs := [.bool false, .slice none 0 0]) HS rfl rfl Tryz.zeroValue39 rfl rfl (listed' := #[true, true, true, true, false, false, false, false, false, false, true, false, false, false]) rfl (fun g14010 w14010 HS => ?_) AllR.nil
        refine ⟨(fun _ b hb => HS.box b (.tail _ (hb))), ?_⟩
        refine JR.any [4, 9] (by kernel_rfl) rfl ?_
        refine AllR.call rfl rfl rfl Tryz.call99 (rdiv_c HT HB HS (HS.at_ 0 rfl) (HS.at_ 2 rfl) (by omega) (den_ne _)) (listed' := #[true, true, true, true, true, false, false, false, false, false, true, false, false, false]) rfl (fun v14004 w14004 HR14004 => ?_) ?_
        · skip
          obtain ⟨s14004a, A14004a, n14004a, c14004a, s14004b, A14004b, n14004b, c14004b, rfl, HS⟩ := HR14004
          refine ⟨(fun _ b hb => HS.box b (.tail _ (hb))), ?_⟩
          refine JR.val (v := .tuple #[.agg #[.bool s14004a, .slice A14004a n14004a c14004a], .agg #[.bool s14004b, .slice A14004b n14004b c14004b], .int .i64 0]) 5 rfl (by kernel_rfl) (by kernel_rfl) (by kernel_rfl) (by kernel_rfl) (fun _ _ _ h => h) rfl rfl rfl (fun _ b hb => HS.box b (.tail _ (hb))) (fun a ha w => run_move (ha.ev rfl)) (listed' := #[true, true, true, true, true, true, false, false, false, false, true, false, false, false]) rfl ?_
          refine JR.val (v := .agg #[.bool s14004a, .slice A14004a n14004a c14004a]) 6 rfl (by kernel_rfl) (by kernel_rfl) (by kernel_rfl) (by kernel_rfl) (fun _ _ _ h => h) rfl rfl rfl (fun _ b hb => HS.box b (.tail _ (hb))) (fun a ha w => run_extract (ha.ev rfl) rfl) (listed' := #[true, true, true, true, true, true, true, false, false, false, true, false, false, false]) rfl ?_
          refine JR.val (v := .agg #[.bool s14004b, .slice A14004b n14004b c14004b]) 7 rfl (by kernel_rfl) (by kernel_rfl) (by kernel_rfl) (by kernel_rfl) (fun _ _ _ h => h) rfl rfl rfl (fun _ b hb => HS.box b (.tail _ (hb))) (fun a ha w => run_extract (ha.ev rfl) rfl) (listed' := #[true, true, true, true, true, true, true, true, false, false, true, false, false, false]) rfl ?_
          refine JR.val (v := .int .i64 0) 8 rfl (by kernel_rfl) (by kernel_rfl) (by kernel_rfl) (by kernel_rfl) (fun _ _ _ h => h) rfl rfl rfl (fun _ b hb => HS.box b (.tail _ (hb))) (fun a ha w => run_extract (ha.ev rfl) rfl) (listed' := #[true, true, true, true, true, true, true, true, true, false, true, false, false, false]) rfl ?_
          refine JR.any [9] (by kernel_rfl) rfl ?_
          refine AllR.alloc (vs := [.bool false, .slice none 0 0]) HS rfl rfl Tryz.zeroValue39 rfl rfl (listed' := #[true, true, true, true, true, true, true, true, true, true, true, false, false, false]) rfl (fun g14009 w14009 HS => ?_) AllR.nil
          refine ⟨(fun _ b hb => HS.box b (.tail _ (.tail _ (hb)))), ?_⟩
          refine JR.any [11] (by kernel_rfl) rfl ?_
          refine AllR.store HS rfl rfl rfl 0 rfl Tryz.sizeOf39 rfl rfl rfl (vs' := [.bool s14004a, .slice A14004a n14004a c14004a]) rfl rfl (listed' := #[true, true, true, true, true, true, true, true, true, true, true, true, false, false]) rfl (fun w14011 HS => ?_) AllR.nil
          refine ⟨(fun h => absurd (h 11 (.head _)) (by decide)), ?_⟩
          refine JR.any [12] (by kernel_rfl) rfl ?_
          refine AllR.store HS rfl rfl rfl 1 rfl Tryz.sizeOf39 rfl rfl rfl (vs' := [.bool s14004b, .slice A14004b n14004b c14004b]) rfl rfl (listed' := #[true, true, true, true, true, true, true, true, true, true, true, true, true, false]) rfl (fun w14012 HS => ?_) AllR.nil
          refine ⟨(fun h => absurd (h 11 (.head _)) (by decide)), ?_⟩
          refine JR.val (v := .int .i64 0) 13 rfl (by kernel_rfl) (by kernel_rfl) (by kernel_rfl) (by kernel_rfl) (fun _ _ _ h => h) rfl rfl rfl (fun h => absurd (h 11 (.head _)) (by decide)) (fun a ha w => run_assign (ha.ev rfl)) (listed' := #[true, true, true, true, true, true, true, true, true, true, true, true, true, true]) rfl ?_
          exact JR.meet (by kernel_rfl) (s14002, A14002, n14002, c14002, s14004a, A14004a, n14004a, c14004a, s14004b, A14004b, n14004b, c14004b, g14009, g14010) (sub_cons rfl (sub_cons rfl (sub_cons rfl (sub_cons rfl (sub_cons rfl (sub_cons rfl (sub_cons rfl (sub_cons rfl (sub_cons rfl (sub_cons rfl (sub_cons rfl (sub_cons rfl (sub_cons rfl (sub_cons rfl (sub_cons rfl (sub_cons rfl (sub_cons rfl (sub_cons rfl (sub_cons rfl (sub_cons rfl (sub_cons rfl (sub_cons rfl (sub_cons rfl (sub_cons rfl (sub_cons rfl (sub_cons rfl (sub_cons rfl (sub_cons rfl (sub_cons rfl (sub_cons rfl (sub_cons rfl (sub_cons rfl (sub_cons rfl (sub_cons rfl (sub_cons rfl (sub_nil)))))))))))))))))))))))))))))))))))) (HS.perm (.swap _ _ _))
        refine AllR.alloc (vs := [.bool false, .slice none 0 0]) HS rfl rfl Tryz.zeroValue39 rfl rfl (listed' := #[true, true, true, true, false, false, false, false, false, true, true, false, false, false]) rfl (fun g14009 w14009 HS => ?_) AllR.nil
        refine ⟨(fun _ b hb => HS.box b (.tail _ (.tail _ (hb)))), ?_⟩
        refine JR.any [4] (by kernel_rfl) rfl ?_
        refine AllR.call rfl rfl rfl Tryz.call99 (rdiv_c HT HB HS (HS.at_ 0 rfl) (HS.at_ 2 rfl) (by omega) (den_ne _)) (listed' := #[true, true, true, true, true, false, false, false, false, true, true, false, false, false]) rfl (fun v14004 w14004 HR14004 => ?_) AllR.nil
        obtain ⟨s14004a, A14004a, n14004a, c14004a, s14004b, A14004b, n14004b, c14004b, rfl, HS⟩ := HR14004
        refine ⟨(fun _ b hb => HS.box b (.tail _ (.tail _ (hb)))), ?_⟩
        refine JR.val (v := .tuple #[.agg #[.bool s14004a, .slice A14004a n14004a c14004a], .agg #[.bool s14004b, .slice A14004b n14004b c14004b], .int .i64 0]) 5 rfl (by kernel_rfl) (by kernel_rfl) (by kernel_rfl) (by kernel_rfl) (fun _ _ _ h => h) rfl rfl rfl (fun _ b hb => HS.box b (.tail _ (.tail _ (hb)))) (fun a ha w => run_move (ha.ev rfl)) (listed' := #[true, true, true, true, true, true, false, false, false, true, true, false, false, false]) rfl ?_
        refine JR.val (v := .agg #[.bool s14004a, .slice A14004a n14004a c14004a]) 6 rfl (by kernel_rfl) (by kernel_rfl) (by kernel_rfl) (by kernel_rfl) (fun _ _ _ h => h) rfl rfl rfl (fun _ b hb => HS.box b (.tail _ (.tail _ (hb)))) (fun a ha w => run_extract (ha.ev rfl) rfl) (listed' := #[true, true, true, true, true, true, true, false, false, true, true, false, false, false]) rfl ?_
        refine JR.val (v := .agg #[.bool s14004b, .slice A14004b n14004b c14004b]) 7 rfl (by kernel_rfl) (by kernel_rfl) (by kernel_rfl) (by kernel_rfl) (fun _ _ _ h => h) rfl rfl rfl (fun _ b hb => HS.box b (.tail _ (.tail _ (hb)))) (fun a ha w => run_extract (ha.ev rfl) rfl) (listed' := #[true, true, true, true, true, true, true, true, false, true, true, false, false, false]) rfl ?_
        refine JR.val (v := .int .i64 0) 8 rfl (by kernel_rfl) (by kernel_rfl) (by kernel_rfl) (by kernel_rfl) (fun _ _ _ h => h) rfl rfl rfl (fun _ b hb => HS.box b (.tail _ (.tail _ (hb)))) (fun a ha w => run_extract (ha.ev rfl) rfl) (listed' := #[true, true, true, true, true, true, true, true, true, true, true, false, false, false]) rfl ?_
        refine JR.any [11] (by kernel_rfl) rfl ?_
        refine AllR.store HS rfl rfl rfl 0 rfl Tryz.sizeOf39 rfl rfl rfl (vs' := [.bool s14004a, .slice A14004a n14004a c14004a]) rfl rfl (listed' := #[true, true, true, true, true, true, true, true, true, true, true, true, false, false]) rfl (fun w14011 HS => ?_) AllR.nil
        refine ⟨(fun h => absurd (h 11 (.head _)) (by decide)), ?_⟩
        refine JR.any [12] (by kernel_rfl) rfl ?_
        refine AllR.store HS rfl rfl rfl 1 rfl Tryz.sizeOf39 rfl rfl rfl (vs' := [.bool s14004b, .slice A14004b n14004b c14004b]) rfl rfl (listed' := #[true, true, true, true, true, true, true, true, true, true, true, true, true, false]) rfl (fun w14012 HS => ?_) AllR.nil
        refine ⟨(fun h => absurd (h 11 (.head _)) (by decide)), ?_⟩
        refine JR.val (v := .int .i64 0) 13 rfl (by kernel_rfl) (by kernel_rfl) (by kernel_rfl) (by kernel_rfl) (fun _ _ _ h => h) rfl rfl rfl (fun h => absurd (h 11 (.head _)) (by decide)) (fun a ha w => run_assign (ha.ev rfl)) (listed' := #[true, true, true, true, true, true, true, true, true, true, true, true, true, true]) rfl ?_
        exact JR.meet (by kernel_rfl) (s14002, A14002, n14002, c14002, s14004a, A14004a, n14004a, c14004a, s14004b, A14004b, n14004b, c14004b, g14009, g14010) (sub_cons rfl (sub_cons rfl (sub_cons rfl (sub_cons rfl (sub_cons rfl (sub_cons rfl (sub_cons rfl (sub_cons rfl (sub_cons rfl (sub_cons rfl (sub_cons rfl (sub_cons rfl (sub_cons rfl (sub_cons rfl (sub_cons rfl (sub_cons rfl (sub_cons rfl (sub_cons rfl (sub_cons rfl (sub_cons rfl (sub_cons rfl (sub_cons rfl (sub_cons rfl (sub_cons rfl (sub_cons rfl (sub_cons rfl (sub_cons rfl (sub_cons rfl (sub_cons rfl (sub_cons rfl (sub_cons rfl (sub_cons rfl (sub_cons rfl (sub_cons rfl (sub_cons rfl (sub_nil)))))))))))))))))))))))))))))))))))) (HS.perm (.swap _ _ _))
      refine AllR.alloc (vs := [.bool false, .slice none 0 0]) HS rfl rfl Tryz.zeroValue39 rfl rfl (listed' := #[true, true, false, true, false, false, false, false, false, true, false, false, false, false]) rfl (fun g14009 w14009 HS => ?_) ?_
      · skip
        refine ⟨(fun _ b hb => HS.box b (.tail _ (hb))), ?_⟩
        refine JR.any [2, 10] (by kernel_rfl) rfl ?_
        refine AllR.call rfl rfl rfl Tryz.call100 (rmul_c HT HB HS (HS.at_ 0 rfl) (HS.at_ 2 rfl) (by omega)) (listed' := #[true, true, true, true, false, false, false, false, false, true, false, false, false, false]) rfl (fun v14002 w14002 HR14002 => ?_) ?_
        · skip
          obtain ⟨s14002, A14002, n14002, c14002, rfl, HS⟩ := HR14002
          refine ⟨(fun _ b hb => HS.box b (.tail _ (hb))), ?_⟩
          refine JR.any [4, 10] (by kernel_rfl) rfl ?_
          refine AllR.call rfl rfl rfl Tryz.call99 (rdiv_c HT HB HS (HS.at_ 0 rfl) (HS.at_ 2 rfl) (by omega) (den_ne _)) (listed' := #[true, true, true, true, true, false, false, false, false, true, false, false, false, false]) rfl (fun v14004 w14004 HR14004 => ?_) ?_
          · skip
            obtain ⟨s14004a, A14004a, n14004a, c14004a, s14004b, A14004b, n14004b, c14004b, rfl, HS⟩ := HR14004
            refine ⟨(fun _ b hb => HS.box b (.tail _ (hb))), ?_⟩
            refine JR.val (v := .tuple #[.agg #[.bool s14004a, .slice A14004a n14004a c14004a], .agg #[.bool s14004b, .slice A14004b n14004b c14004b], .int .i64 0]) 5 rfl (by kernel_rfl) (by kernel_rfl) (by kernel_rfl) (by kernel_rfl) (fun _ _ _ h => h) rfl rfl rfl (fun _ b hb => HS.box b (.tail _ (hb))) (fun a ha w => run_move (ha.ev rfl)) (listed' := #[true, true, true, true, true, true, false, false, false, true, false, false, false, false]) rfl ?_
            refine JR.val (v := .agg #[.bool s14004a, .slice A14004a n14004a c14004a]) 6 rfl (by kernel_rfl) (by kernel_rfl) (by kernel_rfl) (by kernel_rfl) (fun _ _ _ h => h) rfl rfl rfl (fun _ b hb => HS.box b (.tail _ (hb))) (fun a ha w => run_extract (ha.ev rfl) rfl) (listed' := #[true, true, true, true, true, true, true, false, false, true, false, false, false, false]) rfl ?_
            refine JR.val (v := .agg #[.bool s14004b, .slice A14004b n14004b c14004b]) 7 rfl (by kernel_rfl) (by kernel_rfl) (by kernel_rfl) (by kernel_rfl) (fun _ _ _ h => h) rfl rfl rfl (fun _ b hb => HS.box b (.tail _ (hb))) (fun a ha w => run_extract (ha.ev rfl) rfl) (listed' := #[true, true, true, true, true, true, true, true, false, true, false, false, false, false]) rfl ?_
            refine JR.val (v := .int .i64 0) 8 rfl (by kernel_rfl) (by kernel_rfl) (by kernel_rfl) (by kernel_rfl) (fun _ _ _ h => h) rfl rfl rfl (fun _ b hb => HS.box b (.tail _ (hb))) (fun a ha w => run_extract (ha.ev rfl) rfl) (listed' := #[true, true, true, true, true, true, true, true, true, true, false, false, false, false]) rfl ?_
            refine JR.any [10] (by kernel_rfl) rfl ?_
            refine AllR.alloc (vs := [.bool false, .slice none 0 0]) HS rfl rfl Tryz.zeroValue39 rfl rfl (listed' := #[true, true, true, true, true, true, true, true, true, true, true, false, false, false]) rfl (fun g14010 w14010 HS => ?_) AllR.nil
            refine ⟨(fun _ b hb => HS.box b (.tail _ (.tail _ (hb)))), ?_⟩
            refine JR.any [11] (by kernel_rfl) rfl ?_
            refine AllR.store HS rfl rfl rfl 1 rfl Tryz.sizeOf39 rfl rfl rfl (vs' := [.bool s14004a, .slice A14004a n14004a c14004a]) rfl rfl (listed' := #[true, true, true, true, true, true, true, true, true, true, true, true, false, false]) rfl (fun w14011 HS => ?_) AllR.nil
            refine ⟨(fun h => absurd (h 11 (.head _)) (by decide)), ?_⟩
            refine JR.any [12] (by kernel_rfl) rfl ?_
            refine AllR.store HS rfl rfl rfl 0 rfl Tryz.sizeOf39 rfl rfl rfl (vs' := [.bool s14004b, .slice A14004b n14004b c14004b]) rfl rfl (listed' := #[true, true, true, true, true, true, true, true, true, true, true, true, true, false]) rfl (fun w14012 HS => ?_) AllR.nil
            refine ⟨(fun h => absurd (h 11 (.head _)) (by decide)), ?_⟩
            refine JR.val (v := .int .i64 0) 13 rfl (by kernel_rfl) (by kernel_rfl) (by kernel_rfl) (by kernel_rfl) (fun _ _ _ h => h) rfl rfl rfl (fun h => absurd (h 11 (.head _)) (by decide)) (fun a ha w => run_assign (ha.ev rfl)) (listed' := #[true, true, true, true, true, true, true, true, true, true, true, true, true, true]) rfl ?_
            exact JR.meet (by kernel_rfl) (s14002, A14002, n14002, c14002, s14004a, A14004a, n14004a, c14004a, s14004b, A14004b, n14004b, c14004b, g14009, g14010) (sub_cons rfl (sub_cons rfl (sub_cons rfl (sub_cons rfl (sub_cons rfl (sub_cons rfl (sub_cons rfl (sub_cons rfl (sub_cons rfl (sub_cons rfl (sub_cons rfl (sub_cons rfl (sub_cons rfl (sub_cons rfl (sub_cons rfl (sub_cons rfl (sub_cons rfl (sub_cons rfl (sub_cons rfl (sub_cons rfl (sub_cons rfl (sub_cons rfl (sub_cons rfl (sub_cons rfl (sub_cons rfl (sub_cons rfl (sub_cons rfl (sub_cons rfl (sub_cons rfl (sub_cons rfl (sub_cons rfl (sub_cons rfl (sub_cons rfl (sub_cons rfl (sub_cons rfl (sub_nil)))))))))))))))))))))))))))))))))))) HS
          refine AllR.alloc (vs := [.bool false, .slice none 0 0]) HS rfl rfl Tryz.zeroValue39 rfl rfl (listed' := #[true, true, true, true, false, false, false, false, false, true, true, false, false, false]) rfl (fun g14010 w14010 HS => ?_) AllR.nil
          refine ⟨(fun _ b hb => HS.box b (.tail _ (.tail _ (hb)))), ?_⟩
          refine JR.any [4] (by kernel_rfl) rfl ?_
          refine AllR.call rfl rfl rfl Tryz.call99 (rdiv_c HT HB HS (HS.at_ 0 rfl) (HS.at_ 2 rfl) (by omega) (den_ne _)) (listed' := #[true, true, true, true, true, false, false, false, false, true, true, false, false, false]) rfl (fun v14004 w14004 HR14004 => ?_) AllR.nil
          obtain ⟨s14004a, A14004a, n14004a, c14004a, s14004b, A14004b, n14004b, c14004b, rfl, HS⟩ := HR14004
          refine ⟨(fun _ b hb => HS.box b (.tail _ (.tail _ (hb)))), ?_⟩
          refine JR.val (v := .tuple #[.agg #[.bool s14004a, .slice A14004a n14004a c14004a], .agg #[.bool s14004b, .slice A14004b n14004b c14004b], .int .i64 0]) 5 rfl (by kernel_rfl) (by kernel_rfl) (by kernel_rfl) (by kernel_rfl) (fun _ _ _ h => h) rfl rfl rfl (fun _ b hb => HS.box b (.tail _ (.tail _ (hb)))) (fun a ha w => run_move (ha.ev rfl)) (listed' := #[true, true, true, true, true, true, false, false, false, true, true, false, false, false]) rfl ?_
          refine JR.val (v := .agg #[.bool s14004a, .slice A14004a n14004a c14004a]) 6 rfl (by kernel_rfl) (by kernel_rfl) (by kernel_rfl) (by kernel_rfl) (fun _ _ _ h => h) rfl rfl rfl (fun _ b hb => HS.box b (.tail _ (.tail _ (hb)))) (fun a ha w => run_extract (ha.ev rfl) rfl) (listed' := #[true, true, true, true, true, true, true, false, false, true, true, false, false, false]) rfl ?_
          refine JR.val (v := .agg #[.bool s14004b, .slice A14004b n14004b c14004b]) 7 rfl (by kernel_rfl) (by kernel_rfl) (by kernel_rfl) (by kernel_rfl) (fun _ _ _ h => h) rfl rfl rfl (fun _ b hb => HS.box b (.tail _ (.tail _ (hb)))) (fun a ha w => run_extract (ha.ev rfl) rfl) (listed' := #[true, true, true, true, true, true, true, true, false, true, true, false, false, false]) rfl ?_
          refine JR.val (v := .int .i64 0) 8 rfl (by kernel_rfl) (by kernel_rfl) (by kernel_rfl) (by kernel_rfl) (fun _ _ _ h => h) rfl rfl rfl (fun _ b hb => HS.box b (.tail _ (.tail _ (hb)))) (fun a ha w => run_extract (ha.ev rfl) rfl) (listed' := #[true, true, true, true, true, true, true, true, true, true, true, false, false, false]) rfl ?_
          refine JR.any [11] (by kernel_rfl) rfl ?_
          refine AllR.store HS rfl rfl rfl 1 rfl Tryz.sizeOf39 rfl rfl rfl (vs' := [.bool s14004a, .slice A14004a n14004a c14004a]) rfl rfl (listed' := #[true, true, true, true, true, true, true, true, true, true, true, true, false, false]) rfl (fun w14011 HS => ?_) AllR.nil
          refine ⟨(fun h => absurd (h 11 (.head _)) (by decide)), ?_⟩
          refine JR.any [12] (by kernel_rfl) rfl ?_
          refine AllR.store HS rfl rfl rfl 0 rfl Tryz.sizeOf39 rfl rfl rfl (vs' := [.bool s14004b, .slice A14004b n14004b c14004b]) rfl rfl (listed' := #[true, true, true, true, true, true, true, true, true, true, true, true, true, false]) rfl (fun w14012 HS => ?_) AllR.nil
          refine ⟨(fun h => absurd (h 11 (.head _)) (by decide)), ?_⟩
          refine JR.val (v := .int .i64 0) 13 rfl (by kernel_rfl) (by kernel_rfl) (by kernel_rfl) (by kernel_rfl) (fun _ _ _ h => h) rfl rfl rfl (fun h => absurd (h 11 (.head _)) (by decide)) (fun a ha w => run_assign (ha.ev rfl)) (listed' := #[true, true, true, true, true, true, true, true, true, true, true, true, true, true]) rfl ?_
          exact JR.meet (by kernel_rfl) (s14002, A14002, n14002, c14002, s14004a, A14004a, n14004a, c14004a, s14004b, A14004b, n14004b, c14004b, g14009, g14010) (sub_cons rfl (sub_cons rfl (sub_cons rfl (sub_cons rfl (sub_cons rfl (sub_cons rfl (sub_cons rfl (sub_cons rfl (sub_cons rfl (sub_cons rfl (sub_cons rfl (sub_cons rfl (sub_cons rfl (sub_cons rfl (sub_cons rfl (sub_cons rfl (sub_cons rfl (sub_cons rfl (sub_cons rfl (sub_cons rfl (sub_cons rfl (sub_cons rfl (sub_cons rfl (sub_cons rfl (sub_cons rfl (sub_cons rfl (sub_cons rfl (sub_cons rfl (sub_cons rfl (sub_cons rfl (sub_cons rfl (sub_cons rfl (sub_cons rfl (sub_cons rfl (sub_cons rfl (sub_nil)))))))))))))))))))))))))))))))))))) HS
        refine AllR.alloc (vs := [.bool false, .slice none 0 0]) HS rfl rfl Tryz.zeroValue39 rfl rfl (listed' := #[true, true, false, true, false, false, false, false, false, true, true, false, false, false]) rfl (fun g14010 w14010 HS => ?_) AllR.nil
        refine ⟨(fun _ b hb => HS.box b (.tail _ (.tail _ (hb)))), ?_⟩
        refine JR.any [2] (by kernel_rfl) rfl ?_
        refine AllR.call rfl rfl rfl Tryz.call100 (rmul_c HT HB HS (HS.at_ 0 rfl) (HS.at_ 2 rfl) (by omega)) (listed' := #[true, true, true, true, false, false, false, false, false, true, true, false, false, false]) rfl (fun v14002 w14002 HR14002 => ?_) AllR.nil
        obtain ⟨s14002, A14002, n14002, c14002, rfl, HS⟩ := HR14002
        refine ⟨(fun _ b hb => HS.box b (.tail _ (.tail _ (hb)))), ?_⟩
        refine JR.any [4] (by kernel_rfl) rfl ?_
        refine AllR.call rfl rfl rfl Tryz.call99 (rdiv_c HT HB HS (HS.at_ 0 rfl) (HS.at_ 2 rfl) (by omega) (den_ne _)) (listed' := #[true, true, true, true, true, false, false, false, false, true, true, false, false, false]) rfl (fun v14004 w14004 HR14004 => ?_) AllR.nil
        obtain ⟨s14004a, A14004a, n14004a, c14004a, s14004b, A14004b, n14004b, c14004b, rfl, HS⟩ := HR14004
        refine ⟨(fun _ b hb => HS.box b (.tail _ (.tail _ (hb)))), ?_⟩
        refine JR.val (v := .tuple #[.agg #[.bool s14004a, .slice A14004a n14004a c14004a], .agg #[.bool s14004b, .slice A14004b n14004b c14004b], .int .i64 0]) 5 rfl (by kernel_rfl) (by kernel_rfl) (by kernel_rfl) (by kernel_rfl) (fun _ _ _ h => h) rfl rfl rfl (fun _ b hb => HS.box b (.tail _ (.tail _ (hb)))) (fun a ha w => run_move (ha.ev rfl)) (listed' := #[true, true, true, true, true, true, false, false, false, true, true, false, false, false]) rfl ?_
        refine JR.val (v := .agg #[.bool s14004a, .slice A14004a n14004a c14004a]) 6 rfl (by kernel_rfl) (by kernel_rfl) (by kernel_rfl) (by kernel_rfl) (fun _ _ _ h => h) rfl rfl rfl (fun _ b hb => HS.box b (.tail _ (.tail _ (hb)))) (fun a ha w => run_extract (ha.ev rfl) rfl) (listed' := #[true, true, true, true, true, true, true, false, false, true, true, false, false, false]) rfl ?_
        refine JR.val (v := .agg #[.bool s14004b, .slice A14004b n14004b c14004b]) 7 rfl (by kernel_rfl) (by kernel_rfl) (by kernel_rfl) (by kernel_rfl) (fun _ _ _ h => h) rfl rfl rfl (fun _ b hb => HS.box b (.tail _ (.tail _ (hb)))) (fun a ha w => run_extract (ha.ev rfl) rfl) (listed' := #[true, true, true, true, true, true, true, true, false, true, true, false, false, false]) rfl ?_
        refine JR.val (v := .int .i64 0) 8 rfl (by kernel_rfl) (by kernel_rfl) (by kernel_rfl) (by kernel_rfl) (fun _ _ _ h => h) rfl rfl rfl (fun _ b hb => HS.box b (.tail _ (.tail _ (hb)))) (fun a ha w => run_extract (ha.ev rfl) rfl) (listed' := #[true, true, true, true, true, true, true, true, true, true, true, false, false, false]) rfl ?_
        refine JR.any [11] (by kernel_rfl) rfl ?_
        refine AllR.store HS rfl rfl rfl 1 rfl Tryz.sizeOf39 rfl rfl rfl (vs' := [.bool s14004a, .slice A14004a n14004a c14004a]) rfl rfl (listed' := #[true, true, true, true, true, true, true, true, true, true, true, true, false, false]) rfl (fun w14011 HS => ?_) AllR.nil
        refine ⟨(fun h => absurd (h 11 (.head _)) (by decide)), ?_⟩
        refine JR.any [12] (by kernel_rfl) rfl ?_
        refine AllR.store HS rfl rfl rfl 0 rfl Tryz.sizeOf39 rfl rfl rfl (vs' := [.bool s14004b, .slice A14004b n14004b c14004b]) rfl rfl (listed' := #[true, true, true, true, true, true, true, true, true, true, true, true, true, false]) rfl (fun w14012 HS => ?_) AllR.nil
        refine ⟨(fun h => absurd (h 11 (.head _)) (by decide)), ?_⟩
        refine JR.val (v := .int .i64 0) 13 rfl (by kernel_rfl) (by kernel_rfl) (by kernel_rfl) (by kernel_rfl) (fun _ _ _ h => h) rfl rfl rfl (fun h => absurd (h 11 (.head _)) (by decide)) (fun a ha w => run_assign (ha.ev rfl)) (listed' := #[true, true, true, true, true, true, true, true, true, true, true, true, true, true]) rfl ?_
        exact JR.meet (by kernel_rfl) (s14002, A14002, n14002, c14002, s14004a, A14004a, n14004a, c14004a, s14004b, A14004b, n14004b, c14004b, g14009, g14010) (sub_cons rfl (sub_cons rfl (sub_cons rfl (sub_cons rfl (sub_cons rfl (sub_cons rfl (sub_cons rfl (sub_cons rfl (sub_cons rfl (sub_cons rfl (sub_cons rfl (sub_cons rfl (sub_cons rfl (sub_cons rfl (sub_cons rfl (sub_cons rfl (sub_cons rfl (sub_cons rfl (sub_cons rfl (sub_cons rfl (sub_cons rfl (sub_cons rfl (sub_cons rfl (sub_cons rfl (sub_cons rfl (sub_cons rfl (sub_cons rfl (sub_cons rfl (sub_cons rfl (sub_cons rfl (sub_cons rfl (sub_cons rfl (sub_cons rfl (sub_cons rfl (sub_cons rfl (sub_nil)))))))))))))))))))))))))))))))))))) HS
      refine AllR.alloc (vs := [.bool false, .slice none 0 0]) HS rfl rfl Tryz.zeroValue39 rfl rfl (listed' := #[true, true, false, true, false, false, false, false, false, false, true, false, false, false]) rfl (fun g14010 w14010 HS => ?_) AllR.nil
      refine ⟨(fun _ b hb => HS.box b (.tail _ (hb))), ?_⟩
      refine JR.any [2, 9] (by kernel_rfl) rfl ?_
      refine AllR.call rfl rfl rfl Tryz.call100 (rmul_c HT HB HS (HS.at_ 0 rfl) (HS.at_ 2 rfl) (by omega)) (listed' := #[true, true, true, true, false, false, false, false, false, false, true, false, false, false]) rfl (fun v14002 w14002 HR14002 => ?_) ?_
      · skip
        obtain ⟨s14002, A14002, n14002, c14002, rfl, HS⟩ := HR14002
        refine ⟨(fun _ b hb => HS.box b (.tail _ (hb))), ?_⟩
        refine JR.any [4, 9] (by kernel_rfl) rfl ?_
        refine AllR.call rfl rfl rfl Tryz.call99 (rdiv_c HT HB HS (HS.at_ 0 rfl) (HS.at_ 2 rfl) (by omega) (den_ne _)) (listed' := #[true, true, true, true, true, false, false, false, false, false, true, false, false, false]) rfl (fun v14004 w14004 HR14004 => ?_) ?_
        · skip
          obtain ⟨s14004a, A14004a, n14004a, c14004a, s14004b, A14004b, n14004b, c14004b, rfl, HS⟩ := HR14004
          refine ⟨(fun _ b hb => HS.box b (.tail _ (hb))), ?_⟩
          refine JR.val (v := .tuple #[.agg #[.bool s14004a, .slice A14004a n14004a c14004a], .agg #[.bool s14004b, .slice A14004b n14004b c14004b], .int .i64 0]) 5 rfl (by kernel_rfl) (by kernel_rfl) (by kernel_rfl) (by kernel_rfl) (fun _ _ _ h => h) rfl rfl rfl (fun _ b hb => HS.box b (.tail _ (hb))) (fun a ha w => run_move (ha.ev rfl)) (listed' := #[true, true, true, true, true, true, false, false, false, false, true, false, false, false]) rfl ?_
          refine JR.val (v := .agg #[.bool s14004a, .slice A14004a n14004a c14004a]) 6 rfl (by kernel_rfl) (by kernel_rfl) (by kernel_rfl) (by kernel_rfl) (fun _ _ _ h => h) rfl rfl rfl (fun _ b hb => HS.box b (.tail _ (hb))) (fun a ha w => run_extract (ha.ev rfl) rfl) (listed' := #[true, true, true, true, true, true, true, false, false, false, true, false, false, false]) rfl ?_
          refine JR.val (v := .agg #[.bool s14004b, .slice A14004b n14004b c14004b]) 7 rfl (by kernel_rfl) (by kernel_rfl) (by kernel_rfl) (by kernel_rfl) (fun _ _ _ h => h) rfl rfl rfl (fun _ b hb => HS.box b (.tail _ (hb))) (fun a ha w => run_extract (ha.ev rfl) rfl) (listed' := #[true, true, true, true, true, true, true, true, false, false, true, false, false, false]) rfl ?_
          refine JR.val (v := .int .i64 0) 8 rfl (by kernel_rfl) (by kernel_rfl) (by kernel_rfl) (by kernel_rfl) (fun _ _ _ h => h) rfl rfl rfl (fun _ b hb => HS.box b (.tail _ (hb))) (fun a ha w => run_extract (ha.ev rfl) rfl) (listed' := #[true, true, true, true, true, true, true, true, true, false, true, false, false, false]) rfl ?_
          refine JR.any [9] (by kernel_rfl) rfl ?_
          refine AllR.alloc (vs := [.bool false, .slice none 0 0]) HS rfl rfl Tryz.zeroValue39 rfl rfl (listed' := #[true, true, true, true, true, true, true, true, true, true, true, false, false, false]) rfl (fun g14009 w14009 HS => ?_) AllR.nil
          refine ⟨(fun _ b hb => HS.box b (.tail _ (.tail _ (hb)))), ?_⟩
          refine JR.any [11] (by kernel_rfl) rfl ?_
          refine AllR.store HS rfl rfl rfl 0 rfl Tryz.sizeOf39 rfl rfl rfl (vs' := [.bool s14004a, .slice A14004a n14004a c14004a]) rfl rfl (listed' := #[true, true, true, true, true, true, true, true, true, true, true, true, false, false]) rfl (fun w14011 HS => ?_) AllR.nil
          refine ⟨(fun h => absurd (h 11 (.head _)) (by decide)), ?_⟩
          refine JR.any [12] (by kernel_rfl) rfl ?_
          refine AllR.store HS rfl rfl rfl 1 rfl Tryz.sizeOf39 rfl rfl rfl (vs' := [.bool s14004b, .slice A14004b n14004b c14004b]) rfl rfl (listed' := #[true, true, true, true, true, true, true, true, true, true, true, true, true, false]) rfl (fun w14012 HS => ?_) AllR.nil
          refine ⟨(fun h => absurd (h 11 (.head _)) (by decide)), ?_⟩
          refine JR.val (v := .int .i64 0) 13 rfl (by kernel_rfl) (by kernel_rfl) (by kernel_rfl) (by kernel_rfl) (fun _ _ _ h => h) rfl rfl rfl (fun h => absurd (h 11 (.head _)) (by decide)) (fun a ha w => run_assign (ha.ev rfl)) (listed' := #[true, true, true, true, true, true, true, true, true, true, true, true, true, true]) rfl ?_
          exact JR.meet (by kernel_rfl) (s14002, A14002, n14002, c14002, s14004a, A14004a, n14004a, c14004a, s14004b, A14004b, n14004b, c14004b, g14009, g14010) (sub_cons rfl (sub_cons rfl (sub_cons rfl (sub_cons rfl (sub_cons rfl (sub_cons rfl (sub_cons rfl (sub_cons rfl (sub_cons rfl (sub_cons rfl (sub_cons rfl (sub_cons rfl (sub_cons rfl (sub_cons rfl (sub_cons rfl (sub_cons rfl (sub_cons rfl (sub_cons rfl (sub_cons rfl (sub_cons rfl (sub_cons rfl (sub_cons rfl (sub_cons rfl (sub_cons rfl (sub_cons rfl (sub_cons rfl (sub_cons rfl (sub_cons rfl (sub_cons rfl (sub_cons rfl (sub_cons rfl (sub_cons rfl (sub_cons rfl (sub_cons rfl (sub_cons rfl (sub_nil)))))))))))))))))))))))))))))))))))) (HS.perm (.swap _ _ _))
        refine AllR.alloc (vs := [.bool false, .slice none 0 0]) HS rfl rfl Tryz.zeroValue39 rfl rfl (listed' := #[true, true, true, true, false, false, false, false, false, true, true, false, false, false]) rfl (fun g14009 w14009 HS => ?_) AllR.nil
        refine ⟨(fun _ b hb => HS.box b (.tail _ (.tail _ (hb)))), ?_⟩
        refine JR.any [4] (by kernel_rfl) rfl ?_
        refine AllR.call rfl rfl rfl Tryz.call99 (rdiv_c HT HB HS (HS.at_ 0 rfl) (HS.at_ 2 rfl) (by omega) (den_ne _)) (listed' := #[true, true, true, true, true, false, false, false, false, true, true, false, false, false]) rfl (fun v14004 w14004 HR14004 => ?_) AllR.nil
        obtain ⟨s14004a, A14004a, n14004a, c14004a, s14004b, A14004b, n14004b, c14004b, rfl, HS⟩ := HR14004
        refine ⟨(fun _ b hb => HS.box b (.tail _ (.tail _ (hb)))), ?_⟩
        refine JR.val (v := .tuple #[.agg #[.bool s14004a, .slice A14004a n14004a c14004a], .agg #[.bool s14004b, .slice A14004b n14004b c14004b], .int .i64 0]) 5 rfl (by kernel_rfl) (by kernel_rfl) (by kernel_rfl) (by kernel_rfl) (fun _ _ _ h => h) rfl rfl rfl (fun _ b hb => HS.box b (.tail _ (.tail _ (hb)))) (fun a ha w => run_move (ha.ev rfl)) (listed' := #[true, true, true, true, true, true, false, false, false, true, true, false, false, false]) rfl ?_
        refine JR.val (v := .agg #[.bool s14004a, .slice A14004a n14004a c14004a]) 6 rfl (by kernel_rfl) (by kernel_rfl) (by kernel_rfl) (by kernel_rfl) (fun _ _ _ h => h) rfl rfl rfl (fun _ b hb => HS.box b (.tail _ (.tail _ (hb)))) (fun a ha w => run_extract (ha.ev rfl) rfl) (listed' := #[true, true, true, true, true, true, true, false, false, true, true, false, false, false]) rfl ?_
        refine JR.val (v := .agg #[.bool s14004b, .slice A14004b n14004b c14004b]) 7 rfl (by kernel_rfl) (by kernel_rfl) (by kernel_rfl) (by kernel_rfl) (fun _ _ _ h => h) rfl rfl rfl (fun _ b hb => HS.box b (.tail _ (.tail _ (hb)))) (fun a ha w => run_extract (ha.ev rfl) rfl) (listed' := #[true, true, true, true, true, true, true, true, false, true, true, false, false, false]) rfl ?_
        refine JR.val (v := .int .i64 0) 8 rfl (by kernel_rfl) (by kernel_rfl) (by kernel_rfl) (by kernel_rfl) (fun _ _ _ h => h) rfl rfl rfl (fun _ b hb => HS.box b (.tail _ (.tail _ (hb)))) (fun a ha w => run_extract (ha.ev rfl) rfl) (listed' := #[true, true, true, true, true, true, true, true, true, true, true, false, false, false]) rfl ?_
        refine JR.any [11] (by kernel_rfl) rfl ?_
        refine AllR.store HS rfl rfl rfl 0 rfl Tryz.sizeOf39 rfl rfl rfl (vs' := [.bool s14004a, .slice A14004a n14004a c14004a]) rfl rfl (listed' := #[true, true, true, true, true, true, true, true, true, true, true, true, false, false]) rfl (fun w14011 HS => ?_) AllR.nil
        refine ⟨(fun h => absurd (h 11 (.head _)) (by decide)), ?_⟩
        refine JR.any [12] (by kernel_rfl) rfl ?_
        refine AllR.store HS rfl rfl rfl 1 rfl Tryz.sizeOf39 rfl rfl rfl (vs' := [.bool s14004b, .slice A14004b n14004b c14004b]) rfl rfl (listed' := #[true, true, true, true, true, true, true, true, true, true, true, true, true, false]) rfl (fun w14012 HS => ?_) AllR.nil
        refine ⟨(fun h => absurd (h 11 (.head _)) (by decide)), ?_⟩
        refine JR.val (v := .int .i64 0) 13 rfl (by kernel_rfl) (by kernel_rfl) (by kernel_rfl) (by kernel_rfl) (fun _ _ _ h => h) rfl rfl rfl (fun h => absurd (h 11 (.head _)) (by decide)) (fun a ha w => run_assign (ha.ev rfl)) (listed' := #[true, true, true, true, true, true, true, true, true, true, true, true, true, true]) rfl ?_
        exact JR.meet (by kernel_rfl) (s14002, A14002, n14002, c14002, s14004a, A14004a, n14004a, c14004a, s14004b, A14004b, n14004b, c14004b, g14009, g14010) (sub_cons rfl (sub_cons rfl (sub_cons rfl (sub_cons rfl (sub_cons rfl (sub_cons rfl (sub_cons rfl (sub_cons rfl (sub_cons rfl (sub_cons rfl (sub_cons rfl (sub_cons rfl (sub_cons rfl (sub_cons rfl (sub_cons rfl (sub_cons rfl (sub_cons rfl (sub_cons rfl (sub_cons rfl (sub_cons rfl (sub_cons rfl (sub_cons rfl (sub_cons rfl (sub_cons rfl (sub_cons rfl (sub_cons rfl (sub_cons rfl (sub_cons rfl (sub_cons rfl (sub_cons rfl (sub_cons rfl (sub_cons rfl (sub_cons rfl (sub_cons rfl (sub_cons rfl (sub_nil)))))))))))))))))))))))))))))))))))) (HS.perm (.swap _ _ _))
      refine AllR.alloc (vs := [.bool false, .slice none 0 0]) HS rfl rfl Tryz.zeroValue39 rfl rfl (listed' := #[true, true, false, true, false, false, false, false, false, true, true, false, false, false]) rfl (fun g14009 w14009 HS => ?_) AllR.nil
      refine ⟨(fun _ b hb => HS.box b (.tail _ (.tail _ (hb)))), ?_⟩
      refine JR.any [2] (by kernel_rfl) rfl ?_
      refine AllR.call rfl rfl rfl Tryz.call100 (rmul_c HT HB HS (HS.at_ 0 rfl) (HS.at_ 2 rfl) (by omega)) (listed' := #[true, true, true, true, false, false, false, false, false, true, true, false, false, false]) rfl (fun v14002 w14002 HR14002 => ?_) AllR.nil
      obtain ⟨s14002, A14002, n14002, c14002, rfl, HS⟩ := HR14002
      refine ⟨(fun _ b hb => HS.box b (.tail _ (.tail _ (hb)))), ?_⟩
      refine JR.any [4] (by kernel_rfl) rfl ?_
      refine AllR.call rfl rfl rfl Tryz.call99 (rdiv_c HT HB HS (HS.at_ 0 rfl) (HS.at_ 2 rfl) (by omega) (den_ne _)) (listed' := #[true, true, true, true, true, false, false, false, false, true, true, false, false, false]) rfl (fun v14004 w14004 HR14004 => ?_) AllR.nil
      obtain ⟨s14004a, A14004a, n14004a, c14004a, s14004b, A14004b, n14004b, c14004b, rfl, HS⟩ := HR14004
      refine ⟨(fun _ b hb => HS.box b (.tail _ (.tail _ (hb)))), ?_⟩
      refine JR.val (v := .tuple #[.agg #[.bool s14004a, .slice A14004a n14004a c14004a], .agg #[.bool s14004b, .slice A14004b n14004b c14004b], .int .i64 0]) 5 rfl (by kernel_rfl) (by kernel_rfl) (by kernel_rfl) (by kernel_rfl) (fun _ _ _ h => h) rfl rfl rfl (fun _ b hb => HS.box b (.tail _ (.tail _ (hb)))) (fun a ha w => run_move (ha.ev rfl)) (listed' := #[true, true, true, true, true, true, false, false, false, true, true, false, false, false]) rfl ?_
      refine JR.val (v := .agg #[.bool s14004a, .slice A14004a n14004a c14004a]) 6 rfl (by kernel_rfl) (by kernel_rfl) (by kernel_rfl) (by kernel_rfl) (fun _ _ _ h => h) rfl rfl rfl (fun _ b hb => HS.box b (.tail _ (.tail _ (hb)))) (fun a ha w => run_extract (ha.ev rfl) rfl) (listed' := #[true, true, true, true, true, true, true, false, false, true, true, false, false, false]) rfl ?_
      refine JR.val (v := .agg #[.bool s14004b, .slice A14004b n14004b c14004b]) 7 rfl (by kernel_rfl) (by kernel_rfl) (by kernel_rfl) (by kernel_rfl) (fun _ _ _ h => h) rfl rfl rfl (fun _ b hb => HS.box b (.tail _ (.tail _ (hb)))) (fun a ha w => run_extract (ha.ev rfl) rfl) (listed' := #[true, true, true, true, true, true, true, true, false, true, true, false, false, false]) rfl ?_
      refine JR.val (v := .int .i64 0) 8 rfl (by kernel_rfl) (by kernel_rfl) (by kernel_rfl) (by kernel_rfl) (fun _ _ _ h => h) rfl rfl rfl (fun _ b hb => HS.box b (.tail _ (.tail _ (hb)))) (fun a ha w => run_extract (ha.ev rfl) rfl) (listed' := #[true, true, true, true, true, true, true, true, true, true, true, false, false, false]) rfl ?_
      refine JR.any [11] (by kernel_rfl) rfl ?_
      refine AllR.store HS rfl rfl rfl 0 rfl Tryz.sizeOf39 rfl rfl rfl (vs' := [.bool s14004a, .slice A14004a n14004a c14004a]) rfl rfl (listed' := #[true, true, true, true, true, true, true, true, true, true, true, true, false, false]) rfl (fun w14011 HS => ?_) AllR.nil
      refine ⟨(fun h => absurd (h 11 (.head _)) (by decide)), ?_⟩
      refine JR.any [12] (by kernel_rfl) rfl ?_
      refine AllR.store HS rfl rfl rfl 1 rfl Tryz.sizeOf39 rfl rfl rfl (vs' := [.bool s14004b, .slice A14004b n14004b c14004b]) rfl rfl (listed' := #[true, true, true, true, true, true, true, true, true, true, true, true, true, false]) rfl (fun w14012 HS => ?_) AllR.nil
      refine ⟨(fun h => absurd (h 11 (.head _)) (by decide)), ?_⟩
      refine JR.val (v := .int .i64 0) 13 rfl (by kernel_rfl) (by kernel_rfl) (by kernel_rfl) (by kernel_rfl) (fun _ _ _ h => h) rfl rfl rfl (fun h => absurd (h 11 (.head _)) (by decide)) (fun a ha w => run_assign (ha.ev rfl)) (listed' := #[true, true, true, true, true, true, true, true, true, true, true, true, true, true]) rfl ?_
      exact JR.meet (by kernel_rfl) (s14002, A14002, n14002, c14002, s14004a, A14004a, n14004a, c14004a, s14004b, A14004b, n14004b, c14004b, g14009, g14010) (sub_cons rfl (sub_cons rfl (sub_cons rfl (sub_cons rfl (sub_cons rfl (sub_cons rfl (sub_cons rfl (sub_cons rfl (sub_cons rfl (sub_cons rfl (sub_cons rfl (sub_cons rfl (sub_cons rfl (sub_cons rfl (sub_cons rfl (sub_cons rfl (sub_cons rfl (sub_cons rfl (sub_cons rfl (sub_cons rfl (sub_cons rfl (sub_cons rfl (sub_cons rfl (sub_cons rfl (sub_cons rfl (sub_cons rfl (sub_cons rfl (sub_cons rfl (sub_cons rfl (sub_cons rfl (sub_cons rfl (sub_cons rfl (sub_cons rfl (sub_cons rfl (sub_cons rfl (sub_nil)))))))))))))))))))))))))))))))))))) (HS.perm (.swap _ _ _))
    · skip
      rintro ⟨s14002, A14002, n14002, c14002, s14004a, A14004a, n14004a, c14004a, s14004b, A14004b, n14004b, c14004b, g14009, g14010⟩ wm14000 HS
      refine JC.sub (T' := [(0, .agg #[.bool s1, .slice A1 n1 c1, .slice B1 m1 d1]), (1, .int .i64 (m2 : Int)), (2, .pointer (some ⟨g1, 0, none⟩)), (4, .pointer (some ⟨g2, 0, none⟩)), (5, .int .i64 0), (6, .pointer (some ⟨g4, 0, none⟩)), (7, .pointer (some ⟨g10, 0, none⟩)), (8, .pointer (some ⟨g11, 0, none⟩)), (9, .pointer (some ⟨g14009, 0, none⟩)), (10, .pointer (some ⟨g14010, 0, none⟩)), (11, .int .i64 0), (12, .int .i64 (m2 : Int)), (13, .bool false), (14, .bool false), (15, .int .i64 (m2 : Int)), (16, .bool false), (17, .bool false), (19, .agg #[.bool s3, .slice A3 n3 c3]), (20, .int .i64 (m2 : Int)), (21, .int .i64 (m2 : Int)), (22, .bool (decide ((m2 : Int) < (m2 : Int)))), (27, .tuple #[.agg #[.bool s9a, .slice A9a n9a c9a], .agg #[.bool s9b, .slice A9b n9b c9b]]), (28, .agg #[.bool s1, .slice A1 n1 c1, .slice B1 m1 d1]), (29, .tuple #[.agg #[.bool s9a, .slice A9a n9a c9a], .agg #[.bool s9b, .slice A9b n9b c9b]]), (30, .agg #[.bool s9a, .slice A9a n9a c9a]), (31, .agg #[.bool s9b, .slice A9b n9b c9b]), (32, .tuple #[.agg #[.bool s14004a, .slice A14004a n14004a c14004a], .agg #[.bool s14004b, .slice A14004b n14004b c14004b], .int .i64 0]), (33, .agg #[.bool s9a, .slice A9a n9a c9a]), (34, .agg #[.bool s, .slice A n c]), (35, .agg #[.bool s14002, .slice A14002 n14002 c14002]), (36, .agg #[.bool s9b, .slice A9b n9b c9b]), (37, .tuple #[.agg #[.bool s14004a, .slice A14004a n14004a c14004a], .agg #[.bool s14004b, .slice A14004b n14004b c14004b], .int .i64 0]), (38, .agg #[.bool s14004a, .slice A14004a n14004a c14004a]), (39, .agg #[.bool s14004b, .slice A14004b n14004b c14004b]), (40, .int .i64 0)]) (fun _ _ h => h) ?_
      have HS : St W0 (⟨g14010, 39, [.bool s14004b, .slice A14004b n14004b c14004b]⟩ :: ⟨g14009, 39, [.bool s14004a, .slice A14004a n14004a c14004a]⟩ :: ⟨g11, 39, [.bool s9b, .slice A9b n9b c9b]⟩ :: ⟨g10, 39, [.bool s9a, .slice A9a n9a c9a]⟩ :: ⟨g4, 39, [.bool s, .slice A n c]⟩ :: ⟨g2, 24, [.bool false, .slice none 0 0, .slice none 0 0]⟩ :: ⟨g1, 24, [.bool s1, .slice A1 n1 c1, .slice B1 m1 d1]⟩ :: U) (FI (.agg #[.bool s14004a, .slice A14004a n14004a c14004a]) ((q1.num * ((2 ^ m2 : Nat) : Int)) / (q1.den : Int)) (((k1 + 2) + 9 + 1) + 1) :: FI (.agg #[.bool s14004b, .slice A14004b n14004b c14004b]) ((q1.num * ((2 ^ m2 : Nat) : Int)) % (q1.den : Int)) (k1 + 2) :: FI (.agg #[.bool s14002, .slice A14002 n14002 c14002]) (q1.num * ((2 ^ m2 : Nat) : Int)) ((k1 + 2) + 9 + 1) :: FI (.agg #[.bool s9a, .slice A9a n9a c9a]) q1.num (k1 + 2) :: FI (.agg #[.bool s9b, .slice A9b n9b c9b]) (q1.den : Int) (k1 + 2) :: FI (.agg #[.bool s, .slice A n c]) ((2 ^ m2 : Nat) : Int) 9 :: FI (.agg #[.bool s3, .slice A3 n3 c3]) 1 2 :: FV (.agg #[.bool s1, .slice A1 n1 c1, .slice B1 m1 d1]) q1 k1 b1 :: Ps) wm14000 := HS
      refine JC.seq ?_
      refine JC.region ?_
      refine JL.load (.agg #[.bool s14004a, .slice A14004a n14004a c14004a]) HS 1 rfl rfl rfl Tryz.isAgg39 Tryz.sizeOf39 rfl rfl ?_
      refine JL.load (.agg #[.bool s, .slice A n c]) HS 4 rfl rfl rfl Tryz.isAgg39 Tryz.sizeOf39 rfl rfl ?_
      refine JL.call rfl rfl Tryz.call101 (rffrom_c HT HB HS (HS.at_ 0 rfl) (HS.at_ 5 rfl) (by omega) (two_pos _)) (fun v16 w16 HR16 => ?_)
      obtain ⟨s16, A16, n16, c16, B16, m16, d16, rfl, HS⟩ := HR16
      refine JL.val (v := .agg #[.bool s16, .slice A16 n16 c16, .slice B16 m16 d16]) rfl rfl rfl (fun a ha => run_extract (ha.ev rfl) rfl) ?_
      refine JL.val (v := .int .i64 0) rfl rfl rfl (fun a ha => run_extract (ha.ev rfl) rfl) ?_
      refine JL.store HS rfl rfl (i := 5) rfl Tryz.sizeOf24 rfl rfl rfl (vs' := [.bool s16, .slice A16 n16 c16, .slice B16 m16 d16]) rfl rfl (fun w17 HS => ?_)
      refine JL.val (v := .int .i64 0) rfl rfl rfl (fun a ha => run_assign (ha.ev rfl)) ?_
      refine JL.next (fun _ _ h => h) ?_
      refine JC.ret (fun a ha => ?_)
      repeat (first | refine ret_then ?_ | refine ret_block ?_)
      refine ret_two (v := .agg #[.bool s16, .slice A16 n16 c16, .slice B16 m16 d16]) (v' := .int .i64 0) ha Tryz.results18 (.agg rfl Tryz.isAgg24 Tryz.sizeOf24 (HS.box _ (.tail _ (.tail _ (.tail _ (.tail _ (.tail _ (.head _))))))) rfl rfl) (.tmp rfl) ⟨_, rfl, ?_⟩
      exact ⟨_, _, _, _, _, _, _, rfl, HS.out 7 9 0 rfl rfl rfl (fun _ h => h.as rfl (by omega))⟩
end
end Go.Proofs.YtbihljnjaondcaaGreatDoor
