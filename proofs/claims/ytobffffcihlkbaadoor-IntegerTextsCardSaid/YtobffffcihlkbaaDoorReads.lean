/- Walks of integer: readDigits, plain. -/
import Derived.Test.YtobffffcihlkbaaDoorRead
namespace Lw
open Go
theorem ext_bytes (a : List UInt8) (i j : Nat) : (ByteArray.mk a.toArray).extract i j = ⟨((a.drop i).take (j - i)).toArray⟩ := by
  apply ByteArray.ext
  rw [ByteArray.data_extract]
  simp
theorem take_more (l : List UInt8) (p m : Nat) : l.take (p + m) = l.take p ++ (l.drop p).take m := by rw [List.take_add]
end Lw
namespace Go.Proofs.YtobffffcihlkbaaDoor
open Go Go.RowKit Lw
set_option maxRecDepth 100000 in
set_option maxHeartbeats 3200000 in
theorem readDigits_any (l : List UInt8) (w : World) (hd : Digs l) (hl : l.length ≤ 65536) :
    Calls Tryd.prog 39 #[.string ⟨l.toArray⟩] w fun e w' => ∃ v n ds, e = .returned v ∧ w'.ownsRow w.heap.size 46 1 v n (arr ds) ∧ Wds ds ∧ n ≤ l.length ∧ val ds = dval l ∧ Trm ds ∧ Below w.heap.size w w' := by
  obtain ⟨i0, hi0, hz0, hz1, hz2⟩ := info_parts info32
  obtain ⟨S, hS⟩ : ∃ S : ByteArray, S = ⟨l.toArray⟩ := ⟨_, rfl⟩
  have hsz : S.size = l.length := by rw [hS]; simp [ByteArray.size]
  rw [← hS]
  have HSS := Lib.hid hS
  have HD := Lib.hid hd
  clear hS hd
  go_enter Tryd.func39, Tryd.ntmps39
  go_wp2_with (at_make; refine wpList_make_own _ rfl _ _ _ rfl w.heap.size 46 i0 _ 1 Tryd.underlying22 hi0 hz0 hz1 _ _ _ (l.length / 9 + 1) rfl rfl (by omega) (by rw [hz2]; omega) (by unfold maxLen; omega) (Nat.le_refl _) ?_; intro w1 hown hgrow)
  have hbel : Below w.heap.size w w1 := (Below.refl _ _).grown hgrow (Nat.le_refl _) (fun k hk => by cases hk)
  clear hgrow
  go_loopw [0, 3] (fun sv v wr => ∃ (p n : Nat) (T : ByteArray) (ds : List Nat), p ≤ l.length ∧ sv = .string T ∧ T.size = l.length - p ∧ Hid (T = ⟨(l.drop p).toArray⟩) ∧ wr.ownsRow w.heap.size 46 1 v n (arr ds) ∧ Wds ds ∧ n ≤ p ∧
      Hid (val ds = dval (l.take p) ∧ Trm ds) ∧ Below w.heap.size w wr) (fun sv _ _ => match sv with | .string T => T.size | _ => 0)
  case atStart => exact ⟨0, 0, S, [], Nat.zero_le _, rfl, by omega, Lib.hid (by rw [HSS.out]; rfl), hown, wds_nil, Nat.le_refl _, Lib.hid ⟨rfl, trm_nil⟩, hbel⟩
  case round =>
    obtain ⟨p, n, T, ds, hp, rfl, hT, hTT, hown2, hdw, hnp, hv, hbw⟩ := hrel
    clear hown hbel
    have hszb := hbw.size
    by_cases hpl : p < l.length
    · obtain ⟨m, hm⟩ : ∃ m, m = (l.length - p - 1) % 9 + 1 := ⟨_, rfl⟩
      have hm1 : ((l.length : Int) - (p : Int) - 1) % 9 + 1 = (m : Int) := by omega
      have hmle : m ≤ l.length - p := by omega
      have hm9 : m ≤ 9 := by omega
      obtain ⟨r, hr⟩ : ∃ r, r = l.length - p := ⟨_, rfl⟩
      rw [← hr] at hT hmle hm
      have hr0 : 0 < r := by omega
      have hrl : r ≤ 65536 := by omega
      have HX1 : Hid (T.extract 0 ((r - 1) % 9 + 1) = ⟨((l.drop p).take m).toArray⟩) := Lib.hid (by rw [← hm, hTT.out, ext_bytes, Nat.sub_zero, List.drop_zero])
      have HX2 : Hid (T.extract ((r - 1) % 9 + 1) r = ⟨(l.drop (p + m)).toArray⟩) := Lib.hid (by rw [← hm, hTT.out, ext_bytes, List.drop_drop, List.take_of_length_le (by rw [List.length_drop]; omega)])
      have HM := Lib.hid hm
      have HR := Lib.hid hr
      have hlm : ((l.drop p).take m).length = m := by rw [List.length_take, List.length_drop]; omega
      have HLM := Lib.hid hlm
      clear hm hr hm1 hlm
      go_wp2_with fail
      rw [HX1.out]
      refine (appendDec_any w.heap.size ((l.drop p).take m) u3 n ds _ hown2 hdw hszb (by omega) (digs_take (digs_drop HD.out p) m) (by rw [HLM.out]; exact hm9)).mono ?_
      rintro e w2 ⟨v', n', ds', rfl, hown3, hdw3, hn3, hv3, ht3, hb3⟩
      have HV3 := Lib.hid hv3
      have HT3 := Lib.hid ht3
      have hbw3 := hbw.trans hb3
      clear hv3 ht3 hown2 hb3 hbw
      go_wp2_with fail
      have hsz2 : (T.extract ((r - 1) % 9 + 1) r).size = l.length - (p + m) := by rw [HX2.out]; simp [ByteArray.size]
      have hpm : p + m ≤ l.length := by have := HR.out; omega
      have hm0 : 1 ≤ m := by have := HM.out; omega
      go_roundw
      case rel =>
        refine ⟨p + m, n', _, ds', hpm, rfl, hsz2, HX2, hown3, hdw3, by omega, Lib.hid ⟨?_, HT3.out hv.out.2⟩, hbw3⟩
        rw [HV3.out, hv.out.1, take_more, dval_append, HLM.out]
      case measure =>
        show (T.extract ((r - 1) % 9 + 1) r).size < T.size
        have := HR.out
        omega
    · obtain rfl : p = l.length := by omega
      have HV : Hid (val ds = dval l ∧ Trm ds) := Lib.hid (by have := hv.out; rwa [List.take_length] at this)
      have hT0 : T.size = 0 := by omega
      clear hv hT
      go_wp2_with fail
      go_ret
      exact ⟨_, n, ds, rfl, hown2, hdw, hnp, HV.out.1, HV.out.2, hbw⟩
end Go.Proofs.YtobffffcihlkbaaDoor
