/- Walk of integer.Text. -/
import Derived.Test.YtobffffcihlkbaaDoorDigits
import Derived.Test.YtobffffcihlkbaaDoorSign
import Derived.Laws.IdiomStrings
import Derived.Lib.BufferRead
namespace Lw
open Go Go.RowKit
theorem itoa_neg {z : Int} (h : sg z = true) : Lib.itoa z = [45] ++ Lib.decDigits z.natAbs := by
  have := sg_true h
  unfold Lib.itoa; rw [if_pos (by omega)]; rfl
theorem itoa_pos {z : Int} (h : sg z = false) : Lib.itoa z = [] ++ Lib.decDigits z.natAbs := by
  have := sg_false h
  unfold Lib.itoa; rw [if_neg (by omega), show z.toNat = z.natAbs by omega]; rfl
theorem dec_ne (u : Nat) : 0 < (Lib.decDigits u).length := by
  rw [Lib.decDigits]
  by_cases h : u < 10
  · rw [dif_pos h]; simp
  · rw [dif_neg h]; simp
theorem own_text {P : Program} {w : World} {base n : Nat} {e src dst : TypeId} {v : Value} {l : List UInt8} (h : w.ownsRow base e 1 v n (Lib.byteCells l)) (hl : 0 < l.length)
    (hs : P.underlying src = some (.slice e)) (he : P.underlying e = some (.int .u8)) (hd : P.underlying dst = some .string) :
    ∃ g c, v = .slice (some ⟨g, 0, none⟩) l.length c ∧ (convert src dst (.slice (some ⟨g, 0, none⟩) l.length c)).run P w = .ok (.string ⟨l.toArray⟩) w := by
  have h1 := h.1
  rw [Lib.byteCells_length, Nat.mul_one] at h1
  rcases h.2 with ⟨_, h0⟩ | ⟨g, cap, cur, hv', hb, hg, hnc, hcm, hcs, htake⟩
  · omega
  · refine ⟨g, cap, by rw [hv', h1], run_convert_bytes_back w src dst e ⟨g, 0, none⟩ cap l hs he hd fun j hj => ?_⟩
    have ha : (⟨g, 0, none⟩ : Addr).add j = ⟨g, j, none⟩ := by unfold Addr.add; split <;> simp_all
    rw [ha, cell_of_row w g j _ e (0, 0) hg]
    have : cur.toList[j]? = (Lib.byteCells l)[j]? := by
      rw [← htake, List.getElem?_take_of_lt (by omega)]
    rw [← Array.getElem?_toList, this]
    simp [Lib.byteCells, hj]
end Lw
namespace Go.Proofs.YtobffffcihlkbaaDoor
open Go Go.RowKit Lw
theorem und8s : Tryd.prog.underlying 62 = some (.slice 5) := by kernel_rfl
theorem und8 : Tryd.prog.underlying 5 = some (.int .u8) := by kernel_rfl
theorem undS : Tryd.prog.underlying 9 = some .string := by kernel_rfl
set_option maxRecDepth 100000 in
set_option maxHeartbeats 1600000 in
theorem text_any (s : Bool) (A : Option Addr) (ns : List Nat) (n c B : Nat) (w : World) (h : Rd w B A ns) (hB : B ≤ w.heap.size) (hn : ns.length = n) (hl : n ≤ 8388608) (hc : n ≤ c) (ht : Tab w) :
    Calls Tryd.prog 17 #[.agg #[.bool s, .slice A n c]] w fun e w' => e = .returned (.string ⟨(Lib.itoa (zv s ns)).toArray⟩) ∧ Below w.heap.size w w' := by
  have hlz := zv_len (s := s) h.wds
  rw [hn] at hlz
  have hk := fun W hR hB' => known_any s A ns n c B W hR hB' hn (by omega) hc
  generalize zv s ns = z at *
  have Hk := Lib.hid hk
  have HT := Lib.hid ht
  obtain ⟨i0, hi0, hz0, hz1, hz2⟩ := info_parts info8
  clear hk ht
  go_enter Tryd.func17, Tryd.ntmps17
  go_wp2_with fail
  refine (Hk.out _ (h.alloc hB _) (by simp; omega)).mono ?_
  rintro e w1 ⟨A1, c1, rfl, hc1, hr1, hb1⟩
  obtain ⟨t1, hs1, hb2⟩ := box1 hb1
  have T1 := t1.put (.bool (sg z)) (.slice A1 (mg z).length c1)
  have R1 := hr1.putTwo t1 (sg z) (.slice A1 (mg z).length c1)
  have hb3 := (hb2.setCell (p := ⟨w.heap.size, 0, none⟩) (Nat.le_refl _) (.bool (sg z))).setCell (p := ⟨w.heap.size, 1, none⟩) (Nat.le_refl _) (.slice A1 (mg z).length c1)
  obtain ⟨c10, c11, f10, f11⟩ := t1.facts
  obtain ⟨d10, d11, g10, g11⟩ := T1.facts
  cases hsg : sg z
  · have HI := Lib.hid (itoa_pos hsg)
    go_wp2_with fail
    rw [hsg] at R1 hb3
    refine (appendDigits_any w.heap.size z.natAbs [] _ 0 A1 (mg z).length c1 B _ (World.ownsRow_nil _ _ _ _) hb3.size (by omega) R1 (by simp; omega) rfl (by omega) (HT.out.next hb3)).mono ?_
    rintro e w2 ⟨v2, k2, rfl, hown2, hb4⟩
    rw [← HI.out] at hown2
    obtain ⟨g, c2, rfl, hrun⟩ := own_text (P := Tryd.prog) hown2 (by rw [HI.out]; have := dec_ne z.natAbs; simp; omega) und8s und8 undS
    have hbE := hb3.trans hb4
    clear hown2 hb4 hb3
    go_wp2_with fail
    go_ret
    exact ⟨rfl, hbE⟩
  · have HI := Lib.hid (itoa_neg hsg)
    rw [hsg] at R1 hb3 T1 d10 d11 g10 g11
    have hszA := hb3.size
    have hown0 := World.ownsRow_nil ((w1.setCell ⟨w.heap.size, 0, none⟩ (.bool true)).setCell ⟨w.heap.size, 1, none⟩ (.slice A1 (mg z).length c1)) w.heap.size 5 1
    have hnew := heap_alloc_new ((w1.setCell ⟨w.heap.size, 0, none⟩ (.bool true)).setCell ⟨w.heap.size, 1, none⟩ (.slice A1 (mg z).length c1)) (.cells #[.int .u8 45] 5)
    rw [World.size_setCell, World.size_setCell] at hnew
    go_wp2_with (at_builtin; go_loud (refine wpList_append_own _ rfl _ _ 62 rfl w.heap.size 5 i0 _ 1 1 Tryd.underlying62 hi0 hz0 hz1 hz2 rfl (by decide) _ 0 _ rfl (hown0.alloc _) ⟨w1.heap.size, 0, none⟩ 1 1 [.int .u8 45] rfl rfl (World.news_of_block (cs := #[.int .u8 45]) (t := 5) (fr := (0, 0)) hnew) (by simp [Value.oneCell']) (by unfold maxLen; omega) (by omega) (by simp; omega) ?_); intro v' w2 hown2 hgrow2 hnil; have hgrow : (((w1.setCell ⟨w.heap.size, 0, none⟩ (.bool true)).setCell ⟨w.heap.size, 1, none⟩ (.slice A1 (mg z).length c1)).alloc (.cells #[.int .u8 45] 5)).grownBy w2 none := hgrow2; have T2 : Two w2 w.heap.size _ _ _ := (hgrow.block w.heap.size (by simp; omega) (by simp)).trans (T1.alloc _); obtain ⟨d20, d21, g20, g21⟩ := T2.facts)
    have hb4 := (hb3.alloc (by omega) (.cells #[.int .u8 45] 5)).grown hgrow (by simp; omega) (fun k hk => by simp at hk)
    have R2 := R1.below (((Below.refl B _).alloc (by simp; omega) (.cells #[.int .u8 45] 5)).grown hgrow (by simp; omega) (fun k hk => by simp at hk))
    have hown : w2.ownsRow w.heap.size 5 1 v' 1 (Lib.byteCells [45]) := hown2
    refine (appendDigits_any w.heap.size z.natAbs [45] _ 1 A1 (mg z).length c1 B _ hown hb4.size (by omega) R2 (by have := hb4.size; omega) rfl (by omega) (HT.out.next hb4)).mono ?_
    rintro e w3 ⟨v3, k3, rfl, hown3, hb5⟩
    rw [← HI.out] at hown3
    obtain ⟨g, c3, rfl, hrun⟩ := own_text (P := Tryd.prog) hown3 (by rw [HI.out]; have := dec_ne z.natAbs; simp) und8s und8 undS
    have hbE := hb4.trans hb5
    clear hown3 hb5 hb4 hb3 hown hown2 hgrow2 hgrow hown0
    go_wp2_with fail
    go_ret
    exact ⟨rfl, hbE⟩
end Go.Proofs.YtobffffcihlkbaaDoor
