/- Walk of the law IntegerTexts. -/
import Derived.Test.YtobffffcihlkbaaDoorReturns
import Derived.Test.YtobffffcihlkbaaDoorRefx
import Derived.Test.YtobffffcihlkbaaDoorRefy
namespace Lw
open Go Go.RowKit
theorem itoa_inj {z z' : Int} (h : Lib.itoa z = Lib.itoa z') : z = z' := by
  cases hz : sg z <;> cases hz' : sg z'
  · rw [itoa_pos hz, itoa_pos hz', List.nil_append, List.nil_append] at h
    have h1 := congrArg dval h
    rw [dval_dec, dval_dec] at h1
    have := sg_false hz
    have := sg_false hz'
    omega
  · rw [itoa_pos hz, itoa_neg hz', List.nil_append, List.singleton_append] at h
    have hp := plain_dec z.natAbs
    rw [h] at hp
    exact absurd rfl (not45 hp.2.1 hp.1)
  · rw [itoa_neg hz, itoa_pos hz', List.nil_append, List.singleton_append] at h
    have hp := plain_dec z'.natAbs
    rw [← h] at hp
    exact absurd rfl (not45 hp.2.1 hp.1)
  · rw [itoa_neg hz, itoa_neg hz', List.singleton_append, List.singleton_append] at h
    injection h with _ h
    have h1 := congrArg dval h
    rw [dval_dec, dval_dec] at h1
    have := (sg_true hz).1
    have := (sg_true hz').1
    omega
theorem itoa_len (z : Int) : (mg z).length ≤ (Lib.itoa z).length := by
  have h1 : z.natAbs < pw (Lib.decDigits z.natAbs).length := by
    have h2 := dval_lt (digs_dec z.natAbs) (Lib.decDigits z.natAbs).length (Nat.le_refl _)
    rw [List.take_length, dval_dec] at h2
    exact Nat.lt_of_lt_of_le h2 (Nat.pow_le_pow_left (by omega) _)
  have h3 := digs_length_le h1
  cases hz : sg z
  · rw [itoa_pos hz]; exact h3
  · rw [itoa_neg hz, List.singleton_append, List.length_cons]; exact Nat.le_trans h3 (Nat.le_succ _)
end Lw
namespace Go.Proofs.YtobffffcihlkbaaDoor
open Go Go.RowKit Lw
/-- Parse's answer: an integer and an error. -/
def PQ (z : Int) (er : Value) (w : World) (e : Ending) (w' : World) : Prop :=
  ∃ (A : Option Addr) (c : Nat), e = .returned (.tuple #[.agg #[.bool (sg z), .slice A (mg z).length c], er]) ∧ (mg z).length ≤ c ∧ Rd w' w'.heap.size A (mg z) ∧ Below w.heap.size w w'
theorem pq_zero {er : Value} {w w' : World} (hb : Below w.heap.size w w') : PQ 0 er w (.returned (.tuple #[.agg #[.bool false, .slice none 0 0], er])) w' :=
  ⟨none, 0, rfl, Nat.le_refl _, Rd.nil_ _ _ _, hb⟩
theorem parse_both (S : ByteArray) (h : S.size ≤ 400 ∨ (65536 < S.size ∧ S.size ≤ 65636)) : ∃ (z : Int) (code : Int) (er : Value), (mg z).length ≤ 400 ∧
    (∀ W, Calls Tryd.prog 11 #[er] W fun e w' => e = .returned (.int .i64 code) ∧ W = w') ∧
    (∀ w, Calls Tryd.prog 15 #[.string S] w (PQ z er w)) ∧ (∀ w, Calls Tryd.prog 16 #[.string S] w (PQ z (.int .i64 code) w)) := by
  rcases h with h | h
  · obtain ⟨l, rfl⟩ : ∃ l : List UInt8, S = ⟨l.toArray⟩ := ⟨S.data.toList, by simp⟩
    have hl : l.length ≤ 400 := by simpa [ByteArray.size] using h
    rcases Classical.em (∃ z, l = Lib.itoa z) with ⟨z, hz⟩ | hn
    · refine ⟨z, 0, .nilIface, ?_, fun W => numnil_any W, fun w => ?_, fun w => ?_⟩
      · have := itoa_len z; rw [← hz] at this; omega
      · refine (parseall_any l w hl).mono fun e w' hh => ?_
        rcases hh with ⟨z', h1, A, c, h2, h3, h4, h5⟩ | ⟨h1, _⟩
        · obtain rfl := itoa_inj (hz.symm.trans h1)
          exact ⟨A, c, h2, h3, h4, h5⟩
        · exact absurd hz (h1 z)
      · refine (refparse_any l w hl).mono fun e w' hh => ?_
        rcases hh with ⟨z', A, c, h1, h2, h3, h4, h5⟩ | ⟨h1, _⟩
        · obtain rfl := itoa_inj (hz.symm.trans h1)
          exact ⟨A, c, h2, h3, h4, h5⟩
        · exact absurd hz (h1 z)
    · refine ⟨0, 2, .iface 48 (.int .i64 2), by rw [mg_zero]; simp, fun W => numerr_any 2 W, fun w => ?_, fun w => ?_⟩
      · refine (parseall_any l w hl).mono fun e w' hh => ?_
        rcases hh with ⟨z', h1, _⟩ | ⟨_, h2, h3⟩
        · exact absurd ⟨z', h1⟩ hn
        · rw [h2]; exact pq_zero h3
      · refine (refparse_any l w hl).mono fun e w' hh => ?_
        rcases hh with ⟨z', A, c, h1, _⟩ | ⟨_, h2, h3⟩
        · exact absurd ⟨z', h1⟩ hn
        · rw [h2]; exact pq_zero h3
  · refine ⟨0, 4, .iface 48 (.int .i64 4), by rw [mg_zero]; simp, fun W => numerr_any 4 W, fun w => ?_, fun w => ?_⟩
    · exact (parselong_any S w h.1 (by omega)).mono fun e w' hh => by rw [hh.1]; exact pq_zero hh.2
    · exact (refparselong_any S w h.1 (by omega)).mono fun e w' hh => by rw [hh.1]; exact pq_zero hh.2
theorem reftext_env {t : TypeId} {W0 w : World} {bs : List Bx} {L : List En} {v : Value} {x : Int} {k : Nat} {b : Bool} (HE : Env t W0 w bs L) (h : ⟨v, x, k, b⟩ ∈ L) (hk : k ≤ 10000) :
    Calls Tryd.prog 18 #[v] w fun e w' => e = .returned (.string ⟨(Lib.itoa x).toArray⟩) ∧ Env t W0 w' bs L := by
  obtain ⟨s, A, n, c, ns, B, e1, h2, h3, h4, h5, h6, e7, h8⟩ := HE.ops _ h
  dsimp only at e1 e7 h5
  subst e1 e7
  exact (refText_any s A ns n c B w h2 h3 h4 (by omega) h6).mono fun e w' hh => ⟨hh.1, HE.next hh.2⟩
set_option maxRecDepth 100000 in
set_option maxHeartbeats 8000000 in
theorem texts_any (s1 : Bool) (A1 : Option Addr) (n1 c1 : Nat) (l1 : List Nat) (S : ByteArray) (w : World) (ht : Tab w)
    (r1 : Rd w w.heap.size A1 l1) (h1 : l1.length = n1) (k1 : n1 ≤ c1) (hS : S.size ≤ maxLen) :
    Calls Tryd.prog 4 #[.agg #[.bool s1, .slice A1 n1 c1], .string S] w fun e w' => e = .returned (.bool true) ∧ Below w.heap.size w w' := by
  have HT := Lib.hid ht
  have H1 := Lib.hid h1
  have hS2 : S.size ≤ 9223372036854775807 := hS
  clear ht h1 hS
  obtain ⟨hb0, hE0⟩ := start1 (w := w) (s1 := s1) (A1 := A1) (n1 := n1) (c1 := c1) l1 24 (.cells #[.bool s1, .slice A1 n1 c1] 24)
  have HE0 := Lib.hid (hE0 r1 H1.out k1)
  have hg := heap_alloc_new (w.alloc (.cells #[.bool s1, .slice A1 n1 c1] 24)) (.cells #[.bool s1, .slice A1 n1 c1] 24)
  rw [World.size_alloc] at hg
  have hs := fun W hg => short_any [⟨s1, A1, n1, c1⟩] (w.heap.size + 1) 1 24 W hg rfl (by omega)
  have HS := Lib.hid (hs _ hg)
  have HB0 := Lib.hid hb0
  clear hE0 hb0 hg hs H1
  go_enter Tryd.func4, Tryd.ntmps4
  go_wp2_with fail
  refine HS.out.mono ?_
  rintro e w1 ⟨rfl, hb1⟩
  have hb1' := below_next HB0.out hb1 (Nat.le_refl _)
  by_cases hbad : few [⟨s1, A1, n1, c1⟩] = false ∨ (400 < S.size ∧ S.size ≤ 65536) ∨ 65636 < S.size
  · clear HE0 HS hb1
    have HAW := Lib.hid (fun W hW => awake_any W (HT.out.next (w' := W) hW))
    cases hf : few [⟨s1, A1, n1, c1⟩]
    · go_wp2_with fail
      refine (HAW.out _ hb1').mono ?_
      rintro e w2 ⟨rfl, hb2⟩
      go_wp2_with fail
      go_ret
      exact ⟨rfl, below_next hb1' hb2 (Nat.le_refl _)⟩
    · have hbad' : (400 < S.size ∧ S.size ≤ 65536) ∨ 65636 < S.size := by
        rcases hbad with h | h
        · rw [hf] at h; cases h
        · exact h
      clear hbad
      rcases hbad' with ⟨h4, h5⟩ | h4
      · go_wp2_with fail
        refine (HAW.out _ hb1').mono ?_
        rintro e w2 ⟨rfl, hb2⟩
        go_wp2_with fail
        go_ret
        exact ⟨rfl, below_next hb1' hb2 (Nat.le_refl _)⟩
      · go_wp2_with fail
        refine (HAW.out _ hb1').mono ?_
        rintro e w2 ⟨rfl, hb2⟩
        go_wp2_with fail
        go_ret
        exact ⟨rfl, below_next hb1' hb2 (Nat.le_refl _)⟩
  · have hf : few [⟨s1, A1, n1, c1⟩] = true := by
      cases h : few [⟨s1, A1, n1, c1⟩]
      · exact absurd (.inl h) hbad
      · rfl
    have hSz : S.size ≤ 400 ∨ (65536 < S.size ∧ S.size ≤ 65636) := by
      rcases Nat.lt_or_ge 400 S.size with h | h
      · right
        refine ⟨?_, ?_⟩
        · rcases Nat.lt_or_ge 65536 S.size with h2 | h2
          · exact h2
          · exact absurd (.inr (.inl ⟨h, h2⟩)) hbad
        · rcases Nat.lt_or_ge 65636 S.size with h2 | h2
          · exact absurd (.inr (.inr h2)) hbad
          · exact h2
      · exact .inl h
    obtain ⟨z, code, er, hz, hnum, hp, hq⟩ := parse_both S hSz
    have HN := Lib.hid hnum
    have HP := Lib.hid hp
    have HQ := Lib.hid hq
    have HE1 := (HE0.out (few1 hf)).next hb1
    clear HE0 HS hb1 HB0 hnum hp hq hbad
    have key : ∀ w2, Below w1.heap.size w1 w2 → True := fun _ _ => trivial
    clear key
    rcases hSz with hSz | ⟨hSa, hSb⟩
    · rw [hf]
      go_wp2_with fail
      refine (awake_any _ (HT.out.next hb1')).mono ?_
      rintro e w2 ⟨rfl, hb2⟩
      have HE := HE1.next hb2
      clear HE1 hb2 hb1' r1 hf
      generalize zv s1 l1 = x1 at *
      obtain ⟨q1, q2⟩ := HE.cells1
      go_wp2_with fail
      refine (HP.out _).mono ?_
      rintro e w3 ⟨A3, c3, rfl, hc3, hr3, hb3⟩
      have HE := ((HE.next hb3).cons (e := ⟨.agg #[.bool (sg z), .slice A3 (mg z).length c3], z, 400, true⟩) ⟨sg z, A3, _, c3, mg z, _, rfl, hr3, Nat.le_refl _, rfl, hz, hc3, zv_own z, vB_own z⟩).addbox (.bool (sg z)) (.slice A3 (mg z).length c3)
      clear hb3 hr3 hc3 q1 q2
      go_wp2_with fail
      refine (HQ.out _).mono ?_
      rintro e w4 ⟨A4, c4, rfl, hc4, hr4, hb4⟩
      have HE := ((HE.next hb4).cons (e := ⟨.agg #[.bool (sg z), .slice A4 (mg z).length c4], z, 400, true⟩) ⟨sg z, A4, _, c4, mg z, _, rfl, hr4, Nat.le_refl _, rfl, hz, hc4, zv_own z, vB_own z⟩).addbox (.bool (sg z)) (.slice A4 (mg z).length c4)
      clear hb4 hr4 hc4
      go_wp2_with fail
      go_region_held3 (fun w' => w'.cell? ⟨w4.heap.size, 0, none⟩ = some (.bool (sg z)) ∧ w'.cell? ⟨w4.heap.size, 1, none⟩ = some (.slice A4 (mg z).length c4) ∧ w'.cell? ⟨w3.heap.size, 0, none⟩ = some (.bool (sg z)) ∧ w'.cell? ⟨w3.heap.size, 1, none⟩ = some (.slice A3 (mg z).length c3) ∧ w'.cell? ⟨w.heap.size, 0, none⟩ = some (.bool s1) ∧ w'.cell? ⟨w.heap.size, 1, none⟩ = some (.slice A1 n1 c1)) (first | exact HE.cells3 | exact HE.drew.cells3)
        (first
          | (go_at_call 17; refine (text_env (by first | exact HE | exact HE.drew) (by first | exact .head _ | exact .tail _ (.head _) | exact .tail _ (.tail _ (.head _))) (by omega) HT.out).mono ?_; rintro e wn ⟨rfl, HE⟩)
          | (go_at_call 18; refine (reftext_env (by first | exact HE | exact HE.drew) (by first | exact .head _ | exact .tail _ (.head _) | exact .tail _ (.tail _ (.head _))) (by omega)).mono ?_; rintro e wn ⟨rfl, HE⟩)
          | (go_at_call 11; refine ((fun (_ : True) => HN.out _) trivial).mono ?_; rintro e wn ⟨rfl, rfl⟩)
          | (go_at_call 12; refine (same_env (by first | exact HE | exact HE.drew) (by first | exact .head _ | exact .tail _ (.head _) | exact .tail _ (.tail _ (.head _))) (by first | exact .head _ | exact .tail _ (.head _) | exact .tail _ (.tail _ (.head _))) (by omega) rfl).mono ?_; rintro e wn ⟨rfl, HE⟩))
      all_goals
        go_wp2_with fail
        go_ret
        exact ⟨rfl, HE.below⟩
    · rw [hf]
      go_wp2_with fail
      refine (awake_any _ (HT.out.next hb1')).mono ?_
      rintro e w2 ⟨rfl, hb2⟩
      have HE := HE1.next hb2
      clear HE1 hb2 hb1' r1 hf
      generalize zv s1 l1 = x1 at *
      obtain ⟨q1, q2⟩ := HE.cells1
      go_wp2_with fail
      refine (HP.out _).mono ?_
      rintro e w3 ⟨A3, c3, rfl, hc3, hr3, hb3⟩
      have HE := ((HE.next hb3).cons (e := ⟨.agg #[.bool (sg z), .slice A3 (mg z).length c3], z, 400, true⟩) ⟨sg z, A3, _, c3, mg z, _, rfl, hr3, Nat.le_refl _, rfl, hz, hc3, zv_own z, vB_own z⟩).addbox (.bool (sg z)) (.slice A3 (mg z).length c3)
      clear hb3 hr3 hc3 q1 q2
      go_wp2_with fail
      refine (HQ.out _).mono ?_
      rintro e w4 ⟨A4, c4, rfl, hc4, hr4, hb4⟩
      have HE := ((HE.next hb4).cons (e := ⟨.agg #[.bool (sg z), .slice A4 (mg z).length c4], z, 400, true⟩) ⟨sg z, A4, _, c4, mg z, _, rfl, hr4, Nat.le_refl _, rfl, hz, hc4, zv_own z, vB_own z⟩).addbox (.bool (sg z)) (.slice A4 (mg z).length c4)
      clear hb4 hr4 hc4
      go_wp2_with fail
      go_region_held3 (fun w' => w'.cell? ⟨w4.heap.size, 0, none⟩ = some (.bool (sg z)) ∧ w'.cell? ⟨w4.heap.size, 1, none⟩ = some (.slice A4 (mg z).length c4) ∧ w'.cell? ⟨w3.heap.size, 0, none⟩ = some (.bool (sg z)) ∧ w'.cell? ⟨w3.heap.size, 1, none⟩ = some (.slice A3 (mg z).length c3) ∧ w'.cell? ⟨w.heap.size, 0, none⟩ = some (.bool s1) ∧ w'.cell? ⟨w.heap.size, 1, none⟩ = some (.slice A1 n1 c1)) (first | exact HE.cells3 | exact HE.drew.cells3)
        (first
          | (go_at_call 17; refine (text_env (by first | exact HE | exact HE.drew) (by first | exact .head _ | exact .tail _ (.head _) | exact .tail _ (.tail _ (.head _))) (by omega) HT.out).mono ?_; rintro e wn ⟨rfl, HE⟩)
          | (go_at_call 18; refine (reftext_env (by first | exact HE | exact HE.drew) (by first | exact .head _ | exact .tail _ (.head _) | exact .tail _ (.tail _ (.head _))) (by omega)).mono ?_; rintro e wn ⟨rfl, HE⟩)
          | (go_at_call 11; refine ((fun (_ : True) => HN.out _) trivial).mono ?_; rintro e wn ⟨rfl, rfl⟩)
          | (go_at_call 12; refine (same_env (by first | exact HE | exact HE.drew) (by first | exact .head _ | exact .tail _ (.head _) | exact .tail _ (.tail _ (.head _))) (by first | exact .head _ | exact .tail _ (.head _) | exact .tail _ (.tail _ (.head _))) (by omega) rfl).mono ?_; rintro e wn ⟨rfl, HE⟩))
      all_goals
        go_wp2_with fail
        go_ret
        exact ⟨rfl, HE.below⟩
end Go.Proofs.YtobffffcihlkbaaDoor
