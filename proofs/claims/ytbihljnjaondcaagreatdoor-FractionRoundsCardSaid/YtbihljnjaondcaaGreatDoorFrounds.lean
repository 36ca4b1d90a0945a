/- Walk of the law FractionRounds. -/
import Derived.Test.YtbihljnjaondcaaGreatDoorFlowl
namespace Go.Proofs.YtbihljnjaondcaaGreatDoor
open Go Go.RowKit Lw Flow
section
variable {W0 w : World} {U : List Box} {Ps : List (World → Prop)}
set_option maxRecDepth 100000 in
set_option maxHeartbeats 2000000 in
theorem frounds_c (HT : Tz W0) (HB : Tab W0) (HS : St W0 U Ps w) {z2 : Int} {s1 : Bool} {A1 : Option Addr} {n1 c1 : Nat} {B1 : Option Addr} {m1 d1 : Nat} {q1 : Rat} {k1 : Nat} {b1 : Bool} (f1 : FV (.agg #[.bool s1, .slice A1 n1 c1, .slice B1 m1 d1]) q1 k1 b1 w) (HX : Mx W0) : CallsV Tryz.prog 3 [.agg #[.bool s1, .slice A1 n1 c1, .slice B1 m1 d1], .int .i64 z2] w (AnP W0 U Ps (.bool true)) := by
  have HS := HS.add (FV.stable _ _ _ _) f1
  clear f1
  refine enter0 Tryz.func3 rfl Tryz.ntmps3 rfl ?_
  refine JC.seq ?_
  refine JC.region ?_
  refine JL.box (vs := [.bool s1, .slice A1 n1 c1, .slice B1 m1 d1]) HS rfl rfl rfl rfl (fun g1 w1 HS => ?_)
  refine JL.val (v := .bool false) rfl rfl rfl (fun a ha => run_assign (ha.ev rfl)) ?_
  refine JL.next (fun _ _ h => h) ?_
  refine JC.seq ?_
  refine JC.seq ?_
  refine JC.region ?_
  refine JL.load (.agg #[.bool s1, .slice A1 n1 c1, .slice B1 m1 d1]) HS 0 rfl rfl rfl Tryz.isAgg24 Tryz.sizeOf24 rfl rfl ?_
  refine JL.buildSlice (ps := [(0, .agg #[.bool s1, .slice A1 n1 c1, .slice B1 m1 d1])]) (vs := [.bool s1, .slice A1 n1 c1, .slice B1 m1 d1]) HS rfl (fun a ha => by simp only [List.map_cons, List.map_nil, ha.ev (x := .tmp 17) (v := .agg #[.bool s1, .slice A1 n1 c1, .slice B1 m1 d1]) rfl]) Tryz.runUnderlying77 Tryz.sizeOf24 Tryz.zeroValue24 rfl rfl (by kernel_rfl) rfl (fun g2 w2 HS => ?_)
  refine JL.call rfl rfl Tryz.call12 (fshort_c HS 0 [⟨s1, A1, n1, c1, B1, m1, d1⟩] rfl rfl (by omega)) (fun v3 w3 HR3 => ?_)
  obtain ⟨rfl, HS⟩ := HR3
  cases hsp4 : (ffew [⟨s1, A1, n1, c1, B1, m1, d1⟩])
  · skip
    refine JL.val (v := .bool true) rfl rfl rfl (fun a ha => run_not (b := false) (ha.ev rfl)) ?_
    refine JL.val (v := .bool true) rfl rfl rfl (fun a ha => run_move (ha.ev rfl)) ?_
    refine JL.pass rfl rfl rfl rfl rfl rfl rfl rfl ?_
    refine JL.pass rfl rfl rfl rfl rfl rfl rfl rfl ?_
    refine JL.pass rfl rfl rfl rfl rfl rfl rfl rfl ?_
    refine JL.pass rfl rfl rfl rfl rfl rfl rfl rfl ?_
    refine JL.val (v := .bool true) rfl rfl rfl (fun a ha => run_pick_t (ha.ev rfl) (ha.ev rfl)) ?_
    refine JL.val (v := .bool true) rfl rfl rfl (fun a ha => run_move (ha.ev rfl)) ?_
    refine JL.pass rfl rfl rfl rfl rfl rfl rfl rfl ?_
    refine JL.pass rfl rfl rfl rfl rfl rfl rfl rfl ?_
    refine JL.pass rfl rfl rfl rfl rfl rfl rfl rfl ?_
    refine JL.pass rfl rfl rfl rfl rfl rfl rfl rfl ?_
    refine JL.val (v := .bool true) rfl rfl rfl (fun a ha => run_pick_t (ha.ev rfl) (ha.ev rfl)) ?_
    refine JL.val (v := .bool true) rfl rfl rfl (fun a ha => run_move (ha.ev rfl)) ?_
    refine JL.pass rfl rfl rfl rfl rfl rfl rfl rfl ?_
    refine JL.pass rfl rfl rfl rfl rfl rfl rfl rfl ?_
    refine JL.val (v := .bool true) rfl rfl rfl (fun a ha => run_pick_t (ha.ev rfl) (ha.ev rfl)) ?_
    refine JL.next (fun _ _ h => h) ?_
    refine JC.cond_t rfl ?_
    refine JC.seq ?_
    refine JC.region ?_
    refine JL.call rfl rfl Tryz.call13 (fawake_c HT HB HX HS) (fun v5 w5 HR5 => ?_)
    obtain ⟨rfl, HS⟩ := HR5
    refine JL.val (v := .bool true) rfl rfl rfl (fun a ha => run_assign (ha.ev rfl)) ?_
    refine JL.next (fun _ _ h => h) ?_
    refine JC.ret (fun a ha => ?_)
    repeat (first | refine ret_then ?_ | refine ret_block ?_)
    refine ret_one (v := .bool true) ha Tryz.results3 (.tmp rfl) ⟨_, rfl, ?_⟩
    exact ⟨rfl, HS.out0 2 1 rfl rfl⟩
  · skip
    have hfew := (ffew_cons hsp4).1
    refine JL.val (v := .bool false) rfl rfl rfl (fun a ha => run_not (b := true) (ha.ev rfl)) ?_
    refine JL.val (v := .bool false) rfl rfl rfl (fun a ha => run_move (ha.ev rfl)) ?_
    refine JL.valg (v := .pointer (some ⟨g1, 1, none⟩)) rfl rfl rfl rfl rfl rfl rfl (fun a ha => run_fieldAddrV (ha.ev rfl) Tryz.runUnderlying24 rfl Tryz.sizeOf22 rfl rfl) ?_
    refine JL.valg (v := .slice A1 n1 c1) rfl rfl rfl rfl rfl rfl rfl (fun a ha => run_loadOne (ha.ev rfl) Tryz.isAgg22 (HS.box _ (.tail _ (.head _))) rfl) ?_
    refine JL.valg (v := .int .i64 (n1 : Int)) rfl rfl rfl rfl rfl rfl rfl (fun a ha => run_slen (ha.ev rfl) Tryz.runUnderlying22) ?_
    by_cases hsp6 : 2 < n1
    · skip
      refine JL.valg (v := .bool true) rfl rfl rfl rfl rfl rfl rfl (fun a ha => run_gtr (ha.ev rfl) (ha.ev rfl) (decide_eq_true (by omega))) ?_
      refine JL.val (v := .bool true) rfl rfl rfl (fun a ha => run_pick_f (ha.ev rfl) (ha.ev rfl)) ?_
      refine JL.val (v := .bool true) rfl rfl rfl (fun a ha => run_move (ha.ev rfl)) ?_
      refine JL.pass rfl rfl rfl rfl rfl rfl rfl rfl ?_
      refine JL.pass rfl rfl rfl rfl rfl rfl rfl rfl ?_
      refine JL.pass rfl rfl rfl rfl rfl rfl rfl rfl ?_
      refine JL.pass rfl rfl rfl rfl rfl rfl rfl rfl ?_
      refine JL.val (v := .bool true) rfl rfl rfl (fun a ha => run_pick_t (ha.ev rfl) (ha.ev rfl)) ?_
      refine JL.val (v := .bool true) rfl rfl rfl (fun a ha => run_move (ha.ev rfl)) ?_
      refine JL.pass rfl rfl rfl rfl rfl rfl rfl rfl ?_
      refine JL.pass rfl rfl rfl rfl rfl rfl rfl rfl ?_
      refine JL.val (v := .bool true) rfl rfl rfl (fun a ha => run_pick_t (ha.ev rfl) (ha.ev rfl)) ?_
      refine JL.next (fun _ _ h => h) ?_
      refine JC.cond_t rfl ?_
      refine JC.seq ?_
      refine JC.region ?_
      refine JL.call rfl rfl Tryz.call13 (fawake_c HT HB HX HS) (fun v7 w7 HR7 => ?_)
      obtain ⟨rfl, HS⟩ := HR7
      refine JL.val (v := .bool true) rfl rfl rfl (fun a ha => run_assign (ha.ev rfl)) ?_
      refine JL.next (fun _ _ h => h) ?_
      refine JC.ret (fun a ha => ?_)
      repeat (first | refine ret_then ?_ | refine ret_block ?_)
      refine ret_one (v := .bool true) ha Tryz.results3 (.tmp rfl) ⟨_, rfl, ?_⟩
      exact ⟨rfl, HS.out0 2 1 rfl rfl⟩
    · skip
      refine JL.valg (v := .bool false) rfl rfl rfl rfl rfl rfl rfl (fun a ha => run_gtr (ha.ev rfl) (ha.ev rfl) (decide_eq_false (by omega))) ?_
      refine JL.val (v := .bool false) rfl rfl rfl (fun a ha => run_pick_f (ha.ev rfl) (ha.ev rfl)) ?_
      refine JL.val (v := .bool false) rfl rfl rfl (fun a ha => run_move (ha.ev rfl)) ?_
      refine JL.valg (v := .pointer (some ⟨g1, 2, none⟩)) rfl rfl rfl rfl rfl rfl rfl (fun a ha => run_fieldAddrV (ha.ev rfl) Tryz.runUnderlying24 rfl Tryz.sizeOf22 rfl rfl) ?_
      refine JL.valg (v := .slice B1 m1 d1) rfl rfl rfl rfl rfl rfl rfl (fun a ha => run_loadOne (ha.ev rfl) Tryz.isAgg22 (HS.box _ (.tail _ (.head _))) rfl) ?_
      refine JL.valg (v := .int .i64 (m1 : Int)) rfl rfl rfl rfl rfl rfl rfl (fun a ha => run_slen (ha.ev rfl) Tryz.runUnderlying22) ?_
      by_cases hsp8 : 2 < m1
      · skip
        refine JL.valg (v := .bool true) rfl rfl rfl rfl rfl rfl rfl (fun a ha => run_gtr (ha.ev rfl) (ha.ev rfl) (decide_eq_true (by omega))) ?_
        refine JL.val (v := .bool true) rfl rfl rfl (fun a ha => run_pick_f (ha.ev rfl) (ha.ev rfl)) ?_
        refine JL.val (v := .bool true) rfl rfl rfl (fun a ha => run_move (ha.ev rfl)) ?_
        refine JL.pass rfl rfl rfl rfl rfl rfl rfl rfl ?_
        refine JL.pass rfl rfl rfl rfl rfl rfl rfl rfl ?_
        refine JL.val (v := .bool true) rfl rfl rfl (fun a ha => run_pick_t (ha.ev rfl) (ha.ev rfl)) ?_
        refine JL.next (fun _ _ h => h) ?_
        refine JC.cond_t rfl ?_
        refine JC.seq ?_
        refine JC.region ?_
        refine JL.call rfl rfl Tryz.call13 (fawake_c HT HB HX HS) (fun v9 w9 HR9 => ?_)
        obtain ⟨rfl, HS⟩ := HR9
        refine JL.val (v := .bool true) rfl rfl rfl (fun a ha => run_assign (ha.ev rfl)) ?_
        refine JL.next (fun _ _ h => h) ?_
        refine JC.ret (fun a ha => ?_)
        repeat (first | refine ret_then ?_ | refine ret_block ?_)
        refine ret_one (v := .bool true) ha Tryz.results3 (.tmp rfl) ⟨_, rfl, ?_⟩
        exact ⟨rfl, HS.out0 2 1 rfl rfl⟩
      · skip
        refine JL.valg (v := .bool false) rfl rfl rfl rfl rfl rfl rfl (fun a ha => run_gtr (ha.ev rfl) (ha.ev rfl) (decide_eq_false (by omega))) ?_
        refine JL.val (v := .bool false) rfl rfl rfl (fun a ha => run_pick_f (ha.ev rfl) (ha.ev rfl)) ?_
        refine JL.val (v := .bool false) rfl rfl rfl (fun a ha => run_move (ha.ev rfl)) ?_
        refine JL.callg rfl rfl rfl rfl rfl rfl Tryz.call13 (fawake_c HT HB HX HS) (fun v10 w10 HR10 => ?_)
        obtain ⟨rfl, HS⟩ := HR10
        refine JL.valg (v := .bool false) rfl rfl rfl rfl rfl rfl rfl (fun a ha => run_not (b := true) (ha.ev rfl)) ?_
        refine JL.val (v := .bool false) rfl rfl rfl (fun a ha => run_pick_f (ha.ev rfl) (ha.ev rfl)) ?_
        refine JL.next (fun _ _ h => h) ?_
        refine JC.cond_f rfl ?_
        refine JC.next_skip (fun _ _ h => h) ?_
        refine JC.seq ?_
        have HS := HS.fmap 0 rfl (fun _ h => (Fop.cut (K := 2) h (by omega) (by omega) : FV _ _ 2 _ _))
        obtain ⟨qp, ep, cp, hp1, hp2⟩ := power_all q1 2 b1 (by omega) z2
        obtain ⟨qg, eg, cg, hg1, hg2⟩ := grid_all q1 2 b1 (by omega) z2
        obtain ⟨qr, br, hr1⟩ := froot_all q1 2 b1 (by omega)
        refine JC.region ?_
        refine JL.load (.agg #[.bool s1, .slice A1 n1 c1, .slice B1 m1 d1]) HS 1 rfl rfl rfl Tryz.isAgg24 Tryz.sizeOf24 rfl rfl ?_
        refine JL.val (v := .int .i64 z2) rfl rfl rfl (fun a ha => run_move (ha.ev rfl)) ?_
        refine JL.call rfl rfl Tryz.call14 ((hp2 _ _ _ _ _ _ _ _ _ _ _ HT HB HS (HS.at_ 0 rfl)).1) (fun v11 w11 HR11 => ?_)
        obtain ⟨s11, A11, n11, c11, B11, m11, d11, rfl, HS⟩ := HR11
        refine JL.val (v := .tuple #[.agg #[.bool s11, .slice A11 n11 c11, .slice B11 m11 d11], ep]) rfl rfl rfl (fun a ha => run_move (ha.ev rfl)) ?_
        refine JL.val (v := .agg #[.bool s11, .slice A11 n11 c11, .slice B11 m11 d11]) rfl rfl rfl (fun a ha => run_extract (ha.ev rfl) rfl) ?_
        refine JL.val (v := ep) rfl rfl rfl (fun a ha => run_extract (ha.ev rfl) rfl) ?_
        refine JL.alloc (vs := [.bool false, .slice none 0 0, .slice none 0 0]) HS rfl Tryz.zeroValue24 rfl rfl (fun g12 w12 HS => ?_)
        refine JL.store HS rfl rfl (i := 0) rfl Tryz.sizeOf24 rfl rfl rfl (vs' := [.bool s11, .slice A11 n11 c11, .slice B11 m11 d11]) rfl rfl (fun w13 HS => ?_)
        refine JL.val (v := ep) rfl rfl rfl (fun a ha => run_assign (ha.ev rfl)) ?_
        refine JL.next (fun _ _ h => h) ?_
        refine JC.seq ?_
        refine JC.region ?_
        refine JL.load (.agg #[.bool s1, .slice A1 n1 c1, .slice B1 m1 d1]) HS 2 rfl rfl rfl Tryz.isAgg24 Tryz.sizeOf24 rfl rfl ?_
        refine JL.val (v := .int .i64 z2) rfl rfl rfl (fun a ha => run_move (ha.ev rfl)) ?_
        refine JL.call rfl rfl Tryz.call15 ((hg2 _ _ _ _ _ _ _ _ _ _ _ HT HB HS (HS.at_ 1 rfl)).1) (fun v14 w14 HR14 => ?_)
        obtain ⟨s14, A14, n14, c14, B14, m14, d14, rfl, HS⟩ := HR14
        refine JL.val (v := .tuple #[.agg #[.bool s14, .slice A14 n14 c14, .slice B14 m14 d14], eg]) rfl rfl rfl (fun a ha => run_move (ha.ev rfl)) ?_
        refine JL.val (v := .agg #[.bool s14, .slice A14 n14 c14, .slice B14 m14 d14]) rfl rfl rfl (fun a ha => run_extract (ha.ev rfl) rfl) ?_
        refine JL.val (v := eg) rfl rfl rfl (fun a ha => run_extract (ha.ev rfl) rfl) ?_
        refine JL.alloc (vs := [.bool false, .slice none 0 0, .slice none 0 0]) HS rfl Tryz.zeroValue24 rfl rfl (fun g15 w15 HS => ?_)
        refine JL.store HS rfl rfl (i := 0) rfl Tryz.sizeOf24 rfl rfl rfl (vs' := [.bool s14, .slice A14 n14 c14, .slice B14 m14 d14]) rfl rfl (fun w16 HS => ?_)
        refine JL.val (v := eg) rfl rfl rfl (fun a ha => run_assign (ha.ev rfl)) ?_
        refine JL.next (fun _ _ h => h) ?_
        refine JC.seq ?_
        refine JC.region ?_
        refine JL.load (.agg #[.bool s1, .slice A1 n1 c1, .slice B1 m1 d1]) HS 3 rfl rfl rfl Tryz.isAgg24 Tryz.sizeOf24 rfl rfl ?_
        refine JL.call rfl rfl Tryz.call16 ((hr1 _ _ _ _ _ _ _ _ _ _ _ HT HB HS (HS.at_ 2 rfl)).1) (fun v17 w17 HR17 => ?_)
        obtain ⟨s17, A17, n17, c17, B17, m17, d17, rfl, HS⟩ := HR17
        refine JL.val (v := .tuple #[.agg #[.bool s17, .slice A17 n17 c17, .slice B17 m17 d17], .bool br]) rfl rfl rfl (fun a ha => run_move (ha.ev rfl)) ?_
        refine JL.val (v := .agg #[.bool s17, .slice A17 n17 c17, .slice B17 m17 d17]) rfl rfl rfl (fun a ha => run_extract (ha.ev rfl) rfl) ?_
        refine JL.val (v := .bool br) rfl rfl rfl (fun a ha => run_extract (ha.ev rfl) rfl) ?_
        refine JL.alloc (vs := [.bool false, .slice none 0 0, .slice none 0 0]) HS rfl Tryz.zeroValue24 rfl rfl (fun g18 w18 HS => ?_)
        refine JL.store HS rfl rfl (i := 0) rfl Tryz.sizeOf24 rfl rfl rfl (vs' := [.bool s17, .slice A17 n17 c17, .slice B17 m17 d17]) rfl rfl (fun w19 HS => ?_)
        refine JL.val (v := .bool br) rfl rfl rfl (fun a ha => run_assign (ha.ev rfl)) ?_
        refine JL.next (fun _ _ h => h) ?_
        refine JC.seq ?_
        refine JC.region ?_
        refine JL.load (.agg #[.bool s1, .slice A1 n1 c1, .slice B1 m1 d1]) HS 4 rfl rfl rfl Tryz.isAgg24 Tryz.sizeOf24 rfl rfl ?_
        refine JL.val (v := .int .i64 z2) rfl rfl rfl (fun a ha => run_move (ha.ev rfl)) ?_
        refine JL.call rfl rfl Tryz.call17 ((hp2 _ _ _ _ _ _ _ _ _ _ _ HT HB HS (HS.at_ 3 rfl)).2) (fun v20 w20 HR20 => ?_)
        obtain ⟨s20, A20, n20, c20, B20, m20, d20, rfl, HS⟩ := HR20
        refine JL.val (v := .tuple #[.agg #[.bool s20, .slice A20 n20 c20, .slice B20 m20 d20], .int .i64 cp]) rfl rfl rfl (fun a ha => run_move (ha.ev rfl)) ?_
        refine JL.val (v := .agg #[.bool s20, .slice A20 n20 c20, .slice B20 m20 d20]) rfl rfl rfl (fun a ha => run_extract (ha.ev rfl) rfl) ?_
        refine JL.val (v := .int .i64 cp) rfl rfl rfl (fun a ha => run_extract (ha.ev rfl) rfl) ?_
        refine JL.alloc (vs := [.bool false, .slice none 0 0, .slice none 0 0]) HS rfl Tryz.zeroValue24 rfl rfl (fun g21 w21 HS => ?_)
        refine JL.store HS rfl rfl (i := 0) rfl Tryz.sizeOf24 rfl rfl rfl (vs' := [.bool s20, .slice A20 n20 c20, .slice B20 m20 d20]) rfl rfl (fun w22 HS => ?_)
        refine JL.val (v := .int .i64 cp) rfl rfl rfl (fun a ha => run_assign (ha.ev rfl)) ?_
        refine JL.next (fun _ _ h => h) ?_
        refine JC.seq ?_
        refine JC.region ?_
        refine JL.load (.agg #[.bool s1, .slice A1 n1 c1, .slice B1 m1 d1]) HS 5 rfl rfl rfl Tryz.isAgg24 Tryz.sizeOf24 rfl rfl ?_
        refine JL.val (v := .int .i64 z2) rfl rfl rfl (fun a ha => run_move (ha.ev rfl)) ?_
        refine JL.call rfl rfl Tryz.call18 ((hg2 _ _ _ _ _ _ _ _ _ _ _ HT HB HS (HS.at_ 4 rfl)).2) (fun v23 w23 HR23 => ?_)
        obtain ⟨s23, A23, n23, c23, B23, m23, d23, rfl, HS⟩ := HR23
        refine JL.val (v := .tuple #[.agg #[.bool s23, .slice A23 n23 c23, .slice B23 m23 d23], .int .i64 cg]) rfl rfl rfl (fun a ha => run_move (ha.ev rfl)) ?_
        refine JL.val (v := .agg #[.bool s23, .slice A23 n23 c23, .slice B23 m23 d23]) rfl rfl rfl (fun a ha => run_extract (ha.ev rfl) rfl) ?_
        refine JL.val (v := .int .i64 cg) rfl rfl rfl (fun a ha => run_extract (ha.ev rfl) rfl) ?_
        refine JL.alloc (vs := [.bool false, .slice none 0 0, .slice none 0 0]) HS rfl Tryz.zeroValue24 rfl rfl (fun g24 w24 HS => ?_)
        refine JL.store HS rfl rfl (i := 0) rfl Tryz.sizeOf24 rfl rfl rfl (vs' := [.bool s23, .slice A23 n23 c23, .slice B23 m23 d23]) rfl rfl (fun w25 HS => ?_)
        refine JL.val (v := .int .i64 cg) rfl rfl rfl (fun a ha => run_assign (ha.ev rfl)) ?_
        refine JL.next (fun _ _ h => h) ?_
        refine JC.seq ?_
        refine JC.region ?_
        refine JL.load (.agg #[.bool s1, .slice A1 n1 c1, .slice B1 m1 d1]) HS 6 rfl rfl rfl Tryz.isAgg24 Tryz.sizeOf24 rfl rfl ?_
        refine JL.call rfl rfl Tryz.call19 ((hr1 _ _ _ _ _ _ _ _ _ _ _ HT HB HS (HS.at_ 5 rfl)).2) (fun v26 w26 HR26 => ?_)
        obtain ⟨s26, A26, n26, c26, B26, m26, d26, rfl, HS⟩ := HR26
        refine JL.val (v := .tuple #[.agg #[.bool s26, .slice A26 n26 c26, .slice B26 m26 d26], .bool br]) rfl rfl rfl (fun a ha => run_move (ha.ev rfl)) ?_
        refine JL.val (v := .agg #[.bool s26, .slice A26 n26 c26, .slice B26 m26 d26]) rfl rfl rfl (fun a ha => run_extract (ha.ev rfl) rfl) ?_
        refine JL.val (v := .bool br) rfl rfl rfl (fun a ha => run_extract (ha.ev rfl) rfl) ?_
        refine JL.alloc (vs := [.bool false, .slice none 0 0, .slice none 0 0]) HS rfl Tryz.zeroValue24 rfl rfl (fun g27 w27 HS => ?_)
        refine JL.store HS rfl rfl (i := 0) rfl Tryz.sizeOf24 rfl rfl rfl (vs' := [.bool s26, .slice A26 n26 c26, .slice B26 m26 d26]) rfl rfl (fun w28 HS => ?_)
        refine JL.val (v := .bool br) rfl rfl rfl (fun a ha => run_assign (ha.ev rfl)) ?_
        refine JL.next (fun _ _ h => h) ?_
        refine JC.seq ?_
        refine JC.draw HS [] (by kernel_rfl) (fun w29 HS => ?_)
        refine JR.val (v := ep) 0 rfl (by kernel_rfl) (by kernel_rfl) (by kernel_rfl) (by kernel_rfl) (fun _ _ _ h => h) rfl rfl rfl (fun _ b hb => HS.box b (hb)) (fun a ha w => run_move (ha.ev rfl)) (listed' := #[true, false, false, false, false, false, false, false, false, false, false, false, false, false, false, false, false, false, false, false, false, false, false, false, false, false, false, false, false, false, false, false, false, false, false, false, false, false, false, false, false, false, false, false, false]) rfl ?_
        refine JR.val (v := .int .i64 cp) 2 rfl (by kernel_rfl) (by kernel_rfl) (by kernel_rfl) (by kernel_rfl) (fun _ _ _ h => h) rfl rfl rfl (fun _ b hb => HS.box b (hb)) (fun a ha w => run_move (ha.ev rfl)) (listed' := #[true, false, true, false, false, false, false, false, false, false, false, false, false, false, false, false, false, false, false, false, false, false, false, false, false, false, false, false, false, false, false, false, false, false, false, false, false, false, false, false, false, false, false, false, false]) rfl ?_
        refine JR.any [1] (by kernel_rfl) rfl ?_
        refine AllR.call rfl rfl rfl Tryz.call20 (hp1 _ _ _ _ HS) (listed' := #[true, true, true, false, false, false, false, false, false, false, false, false, false, false, false, false, false, false, false, false, false, false, false, false, false, false, false, false, false, false, false, false, false, false, false, false, false, false, false, false, false, false, false, false, false]) rfl (fun v30001 w30001 HR30001 => ?_) AllR.nil
        obtain ⟨rfl, HS⟩ := HR30001
        refine ⟨(fun _ b hb => HS.box b (hb)), ?_⟩
        refine JR.val (v := .bool true) 3 rfl (by kernel_rfl) (by kernel_rfl) (by kernel_rfl) (by kernel_rfl) (fun _ _ _ h => h) rfl rfl rfl (fun _ b hb => HS.box b (hb)) (fun a ha w => run_eql (ha.ev rfl) (ha.ev rfl) (by simp)) (listed' := #[true, true, true, true, false, false, false, false, false, false, false, false, false, false, false, false, false, false, false, false, false, false, false, false, false, false, false, false, false, false, false, false, false, false, false, false, false, false, false, false, false, false, false, false, false]) rfl ?_
        refine JR.val (v := .bool true) 4 rfl (by kernel_rfl) (by kernel_rfl) (by kernel_rfl) (by kernel_rfl) (fun _ _ _ h => h) rfl rfl rfl (fun _ b hb => HS.box b (hb)) (fun a ha w => run_move (ha.ev rfl)) (listed' := #[true, true, true, true, true, false, false, false, false, false, false, false, false, false, false, false, false, false, false, false, false, false, false, false, false, false, false, false, false, false, false, false, false, false, false, false, false, false, false, false, false, false, false, false, false]) rfl ?_
        refine JR.loadg (.agg #[.bool s11, .slice A11 n11 c11, .slice B11 m11 d11]) 5 5 rfl (by kernel_rfl) (by kernel_rfl) (by kernel_rfl) (by kernel_rfl) (fun _ _ _ h => h) rfl rfl rfl rfl rfl (fun _ b hb => HS.box b (hb)) (fun _ h => nomatch h) rfl rfl Tryz.isAgg24 Tryz.sizeOf24 rfl rfl (listed' := #[true, true, true, true, true, true, false, false, false, false, false, false, false, false, false, false, false, false, false, false, false, false, false, false, false, false, false, false, false, false, false, false, false, false, false, false, false, false, false, false, false, false, false, false, false]) rfl ?_
        refine JR.loadg (.agg #[.bool s20, .slice A20 n20 c20, .slice B20 m20 d20]) 6 2 rfl (by kernel_rfl) (by kernel_rfl) (by kernel_rfl) (by kernel_rfl) (fun _ _ _ h => h) rfl rfl rfl rfl rfl (fun _ b hb => HS.box b (hb)) (fun _ h => nomatch h) rfl rfl Tryz.isAgg24 Tryz.sizeOf24 rfl rfl (listed' := #[true, true, true, true, true, true, true, false, false, false, false, false, false, false, false, false, false, false, false, false, false, false, false, false, false, false, false, false, false, false, false, false, false, false, false, false, false, false, false, false, false, false, false, false, false]) rfl ?_
        refine JR.any [7] (by kernel_rfl) rfl ?_
        refine AllR.callg rfl rfl rfl rfl rfl rfl rfl Tryz.call21 (rfsame_t HT HB HS (HS.at_ 5 rfl) (HS.at_ 2 rfl) (by omega) rfl) (listed' := #[true, true, true, true, true, true, true, true, false, false, false, false, false, false, false, false, false, false, false, false, false, false, false, false, false, false, false, false, false, false, false, false, false, false, false, false, false, false, false, false, false, false, false, false, false]) rfl (fun v30007 w30007 HR30007 => ?_) AllR.nil
        obtain ⟨rfl, HS⟩ := HR30007
        refine ⟨(fun _ b hb => HS.box b (hb)), ?_⟩
        refine JR.val (v := .bool true) 8 rfl (by kernel_rfl) (by kernel_rfl) (by kernel_rfl) (by kernel_rfl) (fun _ _ _ h => h) rfl rfl rfl (fun _ b hb => HS.box b (hb)) (fun a ha w => run_pick_t (ha.ev rfl) (ha.ev rfl)) (listed' := #[true, true, true, true, true, true, true, true, true, false, false, false, false, false, false, false, false, false, false, false, false, false, false, false, false, false, false, false, false, false, false, false, false, false, false, false, false, false, false, false, false, false, false, false, false]) rfl ?_
        refine JR.val (v := .bool true) 9 rfl (by kernel_rfl) (by kernel_rfl) (by kernel_rfl) (by kernel_rfl) (fun _ _ _ h => h) rfl rfl rfl (fun _ b hb => HS.box b (hb)) (fun a ha w => run_move (ha.ev rfl)) (listed' := #[true, true, true, true, true, true, true, true, true, true, false, false, false, false, false, false, false, false, false, false, false, false, false, false, false, false, false, false, false, false, false, false, false, false, false, false, false, false, false, false, false, false, false, false, false]) rfl ?_
        refine JR.valg (v := eg) 10 rfl (by kernel_rfl) (by kernel_rfl) (by kernel_rfl) (by kernel_rfl) (fun _ _ _ h => h) rfl rfl rfl rfl rfl rfl rfl (fun _ b hb => HS.box b (hb)) (fun a ha w => run_move (ha.ev rfl)) (listed' := #[true, true, true, true, true, true, true, true, true, true, true, false, false, false, false, false, false, false, false, false, false, false, false, false, false, false, false, false, false, false, false, false, false, false, false, false, false, false, false, false, false, false, false, false, false]) rfl ?_
        refine JR.valg (v := .int .i64 cg) 12 rfl (by kernel_rfl) (by kernel_rfl) (by kernel_rfl) (by kernel_rfl) (fun _ _ _ h => h) rfl rfl rfl rfl rfl rfl rfl (fun _ b hb => HS.box b (hb)) (fun a ha w => run_move (ha.ev rfl)) (listed' := #[true, true, true, true, true, true, true, true, true, true, true, false, true, false, false, false, false, false, false, false, false, false, false, false, false, false, false, false, false, false, false, false, false, false, false, false, false, false, false, false, false, false, false, false, false]) rfl ?_
        refine JR.any [11] (by kernel_rfl) rfl ?_
        refine AllR.callg rfl rfl rfl rfl rfl rfl rfl Tryz.call20 (hg1 _ _ _ _ HS) (listed' := #[true, true, true, true, true, true, true, true, true, true, true, true, true, false, false, false, false, false, false, false, false, false, false, false, false, false, false, false, false, false, false, false, false, false, false, false, false, false, false, false, false, false, false, false, false]) rfl (fun v30011 w30011 HR30011 => ?_) AllR.nil
        obtain ⟨rfl, HS⟩ := HR30011
        refine ⟨(fun _ b hb => HS.box b (hb)), ?_⟩
        refine JR.valg (v := .bool true) 13 rfl (by kernel_rfl) (by kernel_rfl) (by kernel_rfl) (by kernel_rfl) (fun _ _ _ h => h) rfl rfl rfl rfl rfl rfl rfl (fun _ b hb => HS.box b (hb)) (fun a ha w => run_eql (ha.ev rfl) (ha.ev rfl) (by simp)) (listed' := #[true, true, true, true, true, true, true, true, true, true, true, true, true, true, false, false, false, false, false, false, false, false, false, false, false, false, false, false, false, false, false, false, false, false, false, false, false, false, false, false, false, false, false, false, false]) rfl ?_
        refine JR.val (v := .bool true) 14 rfl (by kernel_rfl) (by kernel_rfl) (by kernel_rfl) (by kernel_rfl) (fun _ _ _ h => h) rfl rfl rfl (fun _ b hb => HS.box b (hb)) (fun a ha w => run_pick_t (ha.ev rfl) (ha.ev rfl)) (listed' := #[true, true, true, true, true, true, true, true, true, true, true, true, true, true, true, false, false, false, false, false, false, false, false, false, false, false, false, false, false, false, false, false, false, false, false, false, false, false, false, false, false, false, false, false, false]) rfl ?_
        refine JR.val (v := .bool true) 15 rfl (by kernel_rfl) (by kernel_rfl) (by kernel_rfl) (by kernel_rfl) (fun _ _ _ h => h) rfl rfl rfl (fun _ b hb => HS.box b (hb)) (fun a ha w => run_move (ha.ev rfl)) (listed' := #[true, true, true, true, true, true, true, true, true, true, true, true, true, true, true, true, false, false, false, false, false, false, false, false, false, false, false, false, false, false, false, false, false, false, false, false, false, false, false, false, false, false, false, false, false]) rfl ?_
        refine JR.loadg (.agg #[.bool s14, .slice A14 n14 c14, .slice B14 m14 d14]) 16 4 rfl (by kernel_rfl) (by kernel_rfl) (by kernel_rfl) (by kernel_rfl) (fun _ _ _ h => h) rfl rfl rfl rfl rfl (fun _ b hb => HS.box b (hb)) (fun _ h => nomatch h) rfl rfl Tryz.isAgg24 Tryz.sizeOf24 rfl rfl (listed' := #[true, true, true, true, true, true, true, true, true, true, true, true, true, true, true, true, true, false, false, false, false, false, false, false, false, false, false, false, false, false, false, false, false, false, false, false, false, false, false, false, false, false, false, false, false]) rfl ?_
        refine JR.loadg (.agg #[.bool s23, .slice A23 n23 c23, .slice B23 m23 d23]) 17 1 rfl (by kernel_rfl) (by kernel_rfl) (by kernel_rfl) (by kernel_rfl) (fun _ _ _ h => h) rfl rfl rfl rfl rfl (fun _ b hb => HS.box b (hb)) (fun _ h => nomatch h) rfl rfl Tryz.isAgg24 Tryz.sizeOf24 rfl rfl (listed' := #[true, true, true, true, true, true, true, true, true, true, true, true, true, true, true, true, true, true, false, false, false, false, false, false, false, false, false, false, false, false, false, false, false, false, false, false, false, false, false, false, false, false, false, false, false]) rfl ?_
        refine JR.any [18] (by kernel_rfl) rfl ?_
        refine AllR.callg rfl rfl rfl rfl rfl rfl rfl Tryz.call21 (rfsame_t HT HB HS (HS.at_ 4 rfl) (HS.at_ 1 rfl) (by omega) rfl) (listed' := #[true, true, true, true, true, true, true, true, true, true, true, true, true, true, true, true, true, true, true, false, false, false, false, false, false, false, false, false, false, false, false, false, false, false, false, false, false, false, false, false, false, false, false, false, false]) rfl (fun v30018 w30018 HR30018 => ?_) AllR.nil
        obtain ⟨rfl, HS⟩ := HR30018
        refine ⟨(fun _ b hb => HS.box b (hb)), ?_⟩
        refine JR.val (v := .bool true) 19 rfl (by kernel_rfl) (by kernel_rfl) (by kernel_rfl) (by kernel_rfl) (fun _ _ _ h => h) rfl rfl rfl (fun _ b hb => HS.box b (hb)) (fun a ha w => run_pick_t (ha.ev rfl) (ha.ev rfl)) (listed' := #[true, true, true, true, true, true, true, true, true, true, true, true, true, true, true, true, true, true, true, true, false, false, false, false, false, false, false, false, false, false, false, false, false, false, false, false, false, false, false, false, false, false, false, false, false]) rfl ?_
        refine JR.val (v := .bool true) 20 rfl (by kernel_rfl) (by kernel_rfl) (by kernel_rfl) (by kernel_rfl) (fun _ _ _ h => h) rfl rfl rfl (fun _ b hb => HS.box b (hb)) (fun a ha w => run_move (ha.ev rfl)) (listed' := #[true, true, true, true, true, true, true, true, true, true, true, true, true, true, true, true, true, true, true, true, true, false, false, false, false, false, false, false, false, false, false, false, false, false, false, false, false, false, false, false, false, false, false, false, false]) rfl ?_
        refine JR.loadg (.agg #[.bool s17, .slice A17 n17 c17, .slice B17 m17 d17]) 21 3 rfl (by kernel_rfl) (by kernel_rfl) (by kernel_rfl) (by kernel_rfl) (fun _ _ _ h => h) rfl rfl rfl rfl rfl (fun _ b hb => HS.box b (hb)) (fun _ h => nomatch h) rfl rfl Tryz.isAgg24 Tryz.sizeOf24 rfl rfl (listed' := #[true, true, true, true, true, true, true, true, true, true, true, true, true, true, true, true, true, true, true, true, true, true, false, false, false, false, false, false, false, false, false, false, false, false, false, false, false, false, false, false, false, false, false, false, false]) rfl ?_
        refine JR.loadg (.agg #[.bool s26, .slice A26 n26 c26, .slice B26 m26 d26]) 22 0 rfl (by kernel_rfl) (by kernel_rfl) (by kernel_rfl) (by kernel_rfl) (fun _ _ _ h => h) rfl rfl rfl rfl rfl (fun _ b hb => HS.box b (hb)) (fun _ h => nomatch h) rfl rfl Tryz.isAgg24 Tryz.sizeOf24 rfl rfl (listed' := #[true, true, true, true, true, true, true, true, true, true, true, true, true, true, true, true, true, true, true, true, true, true, true, false, false, false, false, false, false, false, false, false, false, false, false, false, false, false, false, false, false, false, false, false, false]) rfl ?_
        refine JR.any [23] (by kernel_rfl) rfl ?_
        refine AllR.callg rfl rfl rfl rfl rfl rfl rfl Tryz.call21 (rfsame_t HT HB HS (HS.at_ 3 rfl) (HS.at_ 0 rfl) (by omega) rfl) (listed' := #[true, true, true, true, true, true, true, true, true, true, true, true, true, true, true, true, true, true, true, true, true, true, true, true, false, false, false, false, false, false, false, false, false, false, false, false, false, false, false, false, false, false, false, false, false]) rfl (fun v30023 w30023 HR30023 => ?_) AllR.nil
        obtain ⟨rfl, HS⟩ := HR30023
        refine ⟨(fun _ b hb => HS.box b (hb)), ?_⟩
        refine JR.val (v := .bool true) 24 rfl (by kernel_rfl) (by kernel_rfl) (by kernel_rfl) (by kernel_rfl) (fun _ _ _ h => h) rfl rfl rfl (fun _ b hb => HS.box b (hb)) (fun a ha w => run_pick_t (ha.ev rfl) (ha.ev rfl)) (listed' := #[true, true, true, true, true, true, true, true, true, true, true, true, true, true, true, true, true, true, true, true, true, true, true, true, true, false, false, false, false, false, false, false, false, false, false, false, false, false, false, false, false, false, false, false, false]) rfl ?_
        refine JR.val (v := .bool true) 25 rfl (by kernel_rfl) (by kernel_rfl) (by kernel_rfl) (by kernel_rfl) (fun _ _ _ h => h) rfl rfl rfl (fun _ b hb => HS.box b (hb)) (fun a ha w => run_move (ha.ev rfl)) (listed' := #[true, true, true, true, true, true, true, true, true, true, true, true, true, true, true, true, true, true, true, true, true, true, true, true, true, true, false, false, false, false, false, false, false, false, false, false, false, false, false, false, false, false, false, false, false]) rfl ?_
        refine JR.valg (v := .bool br) 26 rfl (by kernel_rfl) (by kernel_rfl) (by kernel_rfl) (by kernel_rfl) (fun _ _ _ h => h) rfl rfl rfl rfl rfl rfl rfl (fun _ b hb => HS.box b (hb)) (fun a ha w => run_move (ha.ev rfl)) (listed' := #[true, true, true, true, true, true, true, true, true, true, true, true, true, true, true, true, true, true, true, true, true, true, true, true, true, true, true, false, false, false, false, false, false, false, false, false, false, false, false, false, false, false, false, false, false]) rfl ?_
        refine JR.valg (v := .bool br) 27 rfl (by kernel_rfl) (by kernel_rfl) (by kernel_rfl) (by kernel_rfl) (fun _ _ _ h => h) rfl rfl rfl rfl rfl rfl rfl (fun _ b hb => HS.box b (hb)) (fun a ha w => run_move (ha.ev rfl)) (listed' := #[true, true, true, true, true, true, true, true, true, true, true, true, true, true, true, true, true, true, true, true, true, true, true, true, true, true, true, true, false, false, false, false, false, false, false, false, false, false, false, false, false, false, false, false, false]) rfl ?_
        refine JR.valg (v := .bool true) 28 rfl (by kernel_rfl) (by kernel_rfl) (by kernel_rfl) (by kernel_rfl) (fun _ _ _ h => h) rfl rfl rfl rfl rfl rfl rfl (fun _ b hb => HS.box b (hb)) (fun a ha w => run_eqb (ha.ev rfl) (ha.ev rfl) Tryz.runUnderlying4 (by simp)) (listed' := #[true, true, true, true, true, true, true, true, true, true, true, true, true, true, true, true, true, true, true, true, true, true, true, true, true, true, true, true, true, false, false, false, false, false, false, false, false, false, false, false, false, false, false, false, false]) rfl ?_
        refine JR.val (v := .bool true) 29 rfl (by kernel_rfl) (by kernel_rfl) (by kernel_rfl) (by kernel_rfl) (fun _ _ _ h => h) rfl rfl rfl (fun _ b hb => HS.box b (hb)) (fun a ha w => run_pick_t (ha.ev rfl) (ha.ev rfl)) (listed' := #[true, true, true, true, true, true, true, true, true, true, true, true, true, true, true, true, true, true, true, true, true, true, true, true, true, true, true, true, true, true, false, false, false, false, false, false, false, false, false, false, false, false, false, false, false]) rfl ?_
        refine JR.val (v := .bool true) 30 rfl (by kernel_rfl) (by kernel_rfl) (by kernel_rfl) (by kernel_rfl) (fun _ _ _ h => h) rfl rfl rfl (fun _ b hb => HS.box b (hb)) (fun a ha w => run_move (ha.ev rfl)) (listed' := #[true, true, true, true, true, true, true, true, true, true, true, true, true, true, true, true, true, true, true, true, true, true, true, true, true, true, true, true, true, true, true, false, false, false, false, false, false, false, false, false, false, false, false, false, false]) rfl ?_
        refine JR.loadg (.agg #[.bool s1, .slice A1 n1 c1, .slice B1 m1 d1]) 31 7 rfl (by kernel_rfl) (by kernel_rfl) (by kernel_rfl) (by kernel_rfl) (fun _ _ _ h => h) rfl rfl rfl rfl rfl (fun _ b hb => HS.box b (hb)) (fun _ h => nomatch h) rfl rfl Tryz.isAgg24 Tryz.sizeOf24 rfl rfl (listed' := #[true, true, true, true, true, true, true, true, true, true, true, true, true, true, true, true, true, true, true, true, true, true, true, true, true, true, true, true, true, true, true, true, false, false, false, false, false, false, false, false, false, false, false, false, false]) rfl ?_
        refine JR.loadg (.agg #[.bool s1, .slice A1 n1 c1, .slice B1 m1 d1]) 33 7 rfl (by kernel_rfl) (by kernel_rfl) (by kernel_rfl) (by kernel_rfl) (fun _ _ _ h => h) rfl rfl rfl rfl rfl (fun _ b hb => HS.box b (hb)) (fun _ h => nomatch h) rfl rfl Tryz.isAgg24 Tryz.sizeOf24 rfl rfl (listed' := #[true, true, true, true, true, true, true, true, true, true, true, true, true, true, true, true, true, true, true, true, true, true, true, true, true, true, true, true, true, true, true, true, false, true, false, false, false, false, false, false, false, false, false, false, false]) rfl ?_
        refine JR.any [32] (by kernel_rfl) rfl ?_
        refine AllR.callg rfl rfl rfl rfl rfl rfl rfl Tryz.call23 (ffloor_c HT HB HS (HS.at_ 6 rfl) (by omega)) (listed' := #[true, true, true, true, true, true, true, true, true, true, true, true, true, true, true, true, true, true, true, true, true, true, true, true, true, true, true, true, true, true, true, true, true, true, false, false, false, false, false, false, false, false, false, false, false]) rfl (fun v30032 w30032 HR30032 => ?_) AllR.nil
        obtain ⟨s30032, A30032, n30032, c30032, rfl, HS⟩ := HR30032
        refine ⟨(fun _ b hb => HS.box b (hb)), ?_⟩
        refine JR.any [34] (by kernel_rfl) rfl ?_
        refine AllR.callg rfl rfl rfl rfl rfl rfl rfl Tryz.call24 (rffloor_c HT HB HS (HS.at_ 7 rfl) (by omega)) (listed' := #[true, true, true, true, true, true, true, true, true, true, true, true, true, true, true, true, true, true, true, true, true, true, true, true, true, true, true, true, true, true, true, true, true, true, true, false, false, false, false, false, false, false, false, false, false]) rfl (fun v30034 w30034 HR30034 => ?_) AllR.nil
        obtain ⟨s30034, A30034, n30034, c30034, rfl, HS⟩ := HR30034
        refine ⟨(fun _ b hb => HS.box b (hb)), ?_⟩
        refine JR.any [35] (by kernel_rfl) rfl ?_
        refine AllR.callg rfl rfl rfl rfl rfl rfl rfl Tryz.call22 (rsame_c HT HB HS (HS.at_ 1 rfl) (HS.at_ 0 rfl) (by omega) rfl) (listed' := #[true, true, true, true, true, true, true, true, true, true, true, true, true, true, true, true, true, true, true, true, true, true, true, true, true, true, true, true, true, true, true, true, true, true, true, true, false, false, false, false, false, false, false, false, false]) rfl (fun v30035 w30035 HR30035 => ?_) AllR.nil
        obtain ⟨rfl, HS⟩ := HR30035
        refine ⟨(fun _ b hb => HS.box b (hb)), ?_⟩
        refine JR.val (v := .bool true) 36 rfl (by kernel_rfl) (by kernel_rfl) (by kernel_rfl) (by kernel_rfl) (fun _ _ _ h => h) rfl rfl rfl (fun _ b hb => HS.box b (hb)) (fun a ha w => run_pick_t (ha.ev rfl) (ha.ev rfl)) (listed' := #[true, true, true, true, true, true, true, true, true, true, true, true, true, true, true, true, true, true, true, true, true, true, true, true, true, true, true, true, true, true, true, true, true, true, true, true, true, false, false, false, false, false, false, false, false]) rfl ?_
        refine JR.val (v := .bool true) 37 rfl (by kernel_rfl) (by kernel_rfl) (by kernel_rfl) (by kernel_rfl) (fun _ _ _ h => h) rfl rfl rfl (fun _ b hb => HS.box b (hb)) (fun a ha w => run_move (ha.ev rfl)) (listed' := #[true, true, true, true, true, true, true, true, true, true, true, true, true, true, true, true, true, true, true, true, true, true, true, true, true, true, true, true, true, true, true, true, true, true, true, true, true, true, false, false, false, false, false, false, false]) rfl ?_
        refine JR.loadg (.agg #[.bool s1, .slice A1 n1 c1, .slice B1 m1 d1]) 38 7 rfl (by kernel_rfl) (by kernel_rfl) (by kernel_rfl) (by kernel_rfl) (fun _ _ _ h => h) rfl rfl rfl rfl rfl (fun _ b hb => HS.box b (hb)) (fun _ h => nomatch h) rfl rfl Tryz.isAgg24 Tryz.sizeOf24 rfl rfl (listed' := #[true, true, true, true, true, true, true, true, true, true, true, true, true, true, true, true, true, true, true, true, true, true, true, true, true, true, true, true, true, true, true, true, true, true, true, true, true, true, true, false, false, false, false, false, false]) rfl ?_
        refine JR.loadg (.agg #[.bool s1, .slice A1 n1 c1, .slice B1 m1 d1]) 40 7 rfl (by kernel_rfl) (by kernel_rfl) (by kernel_rfl) (by kernel_rfl) (fun _ _ _ h => h) rfl rfl rfl rfl rfl (fun _ b hb => HS.box b (hb)) (fun _ h => nomatch h) rfl rfl Tryz.isAgg24 Tryz.sizeOf24 rfl rfl (listed' := #[true, true, true, true, true, true, true, true, true, true, true, true, true, true, true, true, true, true, true, true, true, true, true, true, true, true, true, true, true, true, true, true, true, true, true, true, true, true, true, false, true, false, false, false, false]) rfl ?_
        refine JR.any [39] (by kernel_rfl) rfl ?_
        refine AllR.callg rfl rfl rfl rfl rfl rfl rfl Tryz.call25 (fbits_c HT HB HS (HS.at_ 8 rfl) (by omega)) (listed' := #[true, true, true, true, true, true, true, true, true, true, true, true, true, true, true, true, true, true, true, true, true, true, true, true, true, true, true, true, true, true, true, true, true, true, true, true, true, true, true, true, true, false, false, false, false]) rfl (fun v30039 w30039 HR30039 => ?_) AllR.nil
        obtain ⟨rfl, HS⟩ := HR30039
        refine ⟨(fun _ b hb => HS.box b (hb)), ?_⟩
        refine JR.any [41] (by kernel_rfl) rfl ?_
        refine AllR.callg rfl rfl rfl rfl rfl rfl rfl Tryz.call26 (rfbits_c HT HB HS (HS.at_ 8 rfl) (by omega)) (listed' := #[true, true, true, true, true, true, true, true, true, true, true, true, true, true, true, true, true, true, true, true, true, true, true, true, true, true, true, true, true, true, true, true, true, true, true, true, true, true, true, true, true, true, false, false, false]) rfl (fun v30041 w30041 HR30041 => ?_) AllR.nil
        obtain ⟨rfl, HS⟩ := HR30041
        refine ⟨(fun _ b hb => HS.box b (hb)), ?_⟩
        refine JR.valg (v := .bool true) 42 rfl (by kernel_rfl) (by kernel_rfl) (by kernel_rfl) (by kernel_rfl) (fun _ _ _ h => h) rfl rfl rfl rfl rfl rfl rfl (fun _ b hb => HS.box b (hb)) (fun a ha w => run_eql (ha.ev rfl) (ha.ev rfl) (by simp)) (listed' := #[true, true, true, true, true, true, true, true, true, true, true, true, true, true, true, true, true, true, true, true, true, true, true, true, true, true, true, true, true, true, true, true, true, true, true, true, true, true, true, true, true, true, true, false, false]) rfl ?_
        refine JR.val (v := .bool true) 43 rfl (by kernel_rfl) (by kernel_rfl) (by kernel_rfl) (by kernel_rfl) (fun _ _ _ h => h) rfl rfl rfl (fun _ b hb => HS.box b (hb)) (fun a ha w => run_pick_t (ha.ev rfl) (ha.ev rfl)) (listed' := #[true, true, true, true, true, true, true, true, true, true, true, true, true, true, true, true, true, true, true, true, true, true, true, true, true, true, true, true, true, true, true, true, true, true, true, true, true, true, true, true, true, true, true, true, false]) rfl ?_
        refine JR.val (v := .bool true) 44 rfl (by kernel_rfl) (by kernel_rfl) (by kernel_rfl) (by kernel_rfl) (fun _ _ _ h => h) rfl rfl rfl (fun _ b hb => HS.box b (hb)) (fun a ha w => run_assign (ha.ev rfl)) (listed' := #[true, true, true, true, true, true, true, true, true, true, true, true, true, true, true, true, true, true, true, true, true, true, true, true, true, true, true, true, true, true, true, true, true, true, true, true, true, true, true, true, true, true, true, true, true]) rfl ?_
        refine JR.next (by kernel_rfl) (fun _ _ h => h) ?_
        refine JC.ret (fun a ha => ?_)
        repeat (first | refine ret_then ?_ | refine ret_block ?_)
        refine ret_one (v := .bool true) ha Tryz.results3 (.tmp rfl) ⟨_, rfl, ?_⟩
        exact ⟨rfl, HS.out0 8 10 rfl rfl⟩
theorem frounds_any {s1 : Bool} {A1 : Option Addr} {n1 c1 : Nat} {B1 : Option Addr} {m1 d1 : Nat} {q1 : Rat} {k1 : Nat} {b1 : Bool} {z2 : Int} (W : World) (ht : Tz W) (hb : Tab W) (hx : Mx W) (f1 : Fop W ⟨.agg #[.bool s1, .slice A1 n1 c1, .slice B1 m1 d1], q1, k1, b1⟩) (_w2 : (Lit.int .i64 z2).wf = true) :
    Calls Tryz.prog 3 #[.agg #[.bool s1, .slice A1 n1 c1, .slice B1 m1 d1], .int .i64 z2] W fun e w' => e = .returned (.bool true) ∧ Below W.heap.size W w' := law_true (frounds_c ht hb (St.init W) f1 hx)
end
end Go.Proofs.YtbihljnjaondcaaGreatDoor
