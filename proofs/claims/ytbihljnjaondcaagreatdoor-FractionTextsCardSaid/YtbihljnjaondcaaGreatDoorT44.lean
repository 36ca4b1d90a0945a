/- Part of a proof, said shortly. -/
import Derived.Deep.RegionHeld3
import Derived.Test.YtbihljnjaondcaaGreatDoorAlt
import Derived.Test.YtbihljnjaondcaaGreatDoorT27
import Derived.Test.YtbihljnjaondcaaGreatDoorT9
import Derived.Test.YtbihljnjaondcaaGreatDoorT8
import Derived.Test.YtbihljnjaondcaaGreatDoorT6
import Derived.Test.YtbihljnjaondcaaGreatDoorT4
import Derived.Test.YtbihljnjaondcaaGreatDoorT3
import Derived.Test.YtbihljnjaondcaaGreatDoorT2
import Derived.Test.YtbihljnjaondcaaGreatDoorT1
import Derived.Test.YtbihljnjaondcaaGreatDoorT5
import Derived.Test.YtbihljnjaondcaaGreatDoorT7
import Derived.Test.YtbihljnjaondcaaGreatDoorT10
import Derived.Test.YtbihljnjaondcaaGreatDoorT35
import Derived.Test.YtbihljnjaondcaaGreatDoorT12
namespace Lw
open Go
theorem a4r {l:List UInt8} {k:Nat} (h:acz (l.take k)) (hk:k≤l.length):aan (l.take k) < pw k:=by
 have h1:=a7w h k (by rw [List.length_take]; omega)
 rw [List.take_take,Nat.min_self] at h1
 exact Nat.lt_of_lt_of_le h1 (Nat.pow_le_pow_left (by omega) k)
theorem bbQ (w:World) (t:TypeId) (l:List Nat) (o:Obj):Blk ((w.alloc o).alloc (.cells (arr l).toArray t)) (w.heap.size+1) t l:=by
 have:=Blk.new (w.alloc o) t l
 simpa using this
theorem ban (w:World) (t:TypeId):Blk (w.alloc (.cells #[.int .u32 10] t)) w.heap.size t [10]:=Blk.new w t [10]
theorem bao (w:World) (t:TypeId) (o:Obj):Blk ((w.alloc o).alloc (.cells #[.int .u32 10] t)) (w.heap.size+1) t [10]:=bbQ w t [10] o
theorem bak (w:World) (t:TypeId) (c:Nat):Blk (w.alloc (.cells #[.int .u32 (c:Int)] t)) w.heap.size t [c]:=Blk.new w t [c]
theorem bam (w:World) (t:TypeId) (c:Nat) (o:Obj):Blk ((w.alloc o).alloc (.cells #[.int .u32 (c:Int)] t)) (w.heap.size+1) t [c]:=bbQ w t [c] o
end Lw
namespace Go.Proofs.YtbihljnjaondcaaGreatDoor
open Go Go.RowKit Lw
def a2S (w:World) (N:Nat) (e:Ending) (w':World):Prop :=
 ∃ g n c,e = .returned (.slice (some ⟨g,0,none⟩) n c)∧Hid ((Uy N).length=n)∧n≤c∧w.heap.size≤g∧Blk w' g 99 (Uy N)∧Below w.heap.size w w'
theorem a5k {w w':World} {N:Nat} {e:Ending} (h:a2T w N e w'):a2S w N e w':=by
 obtain ⟨g,c,h1,h2,h3,h4,h5⟩:=h
 exact ⟨g,_,c,h1,Lib.hid rfl,h2,h3,h4,h5⟩
def a9j (w:World) (l:List UInt8) (e:Ending) (w':World):Prop :=
 (∃ z A c,l=Lib.itoa z∧e = .returned (.tuple #[.agg #[.bool (sg z),.slice A (mg z).length c],.int .i64 0])∧(mg z).length≤c∧Rd w' w'.heap.size A (mg z)∧Below w.heap.size w w') ∨
 ((∀ z,l≠Lib.itoa z)∧e = .returned (.tuple #[.agg #[.bool false,.slice none 0 0],.int .i64 2])∧Below w.heap.size w w')
set_option maxRecDepth 100000 in
set_option maxHeartbeats 6400000 in
theorem bm8 (d l:List UInt8) (w:World) (hl:d.length≤400) (hdl:l=d) (h45 : ∀ h:0 < d.length,(d[0]'h).toNat≠45) :
    Calls Tryz.prog 114 #[.string ⟨d.toArray⟩] w (a9j w l):=by
  obtain ⟨D,hD⟩ : ∃ D:ByteArray,D=⟨d.toArray⟩:=⟨_,rfl⟩
  obtain ⟨Z,hZ⟩ : ∃ Z:Int,Z=(aan d:Int):=⟨_,rfl⟩
  have HNO:Hid (¬Fits false d → ∀ z,l≠Lib.itoa z):=Lib.hid (fun h=>by rw [hdl]; exact blf h45 h)
  have a7k:Hid (Fits false d→l=Lib.itoa Z∧Z=if false=true then -(aan d:Int) else (aan d:Int)):=Lib.hid (fun h=>⟨by rw [hdl,hZ]; exact a9F h,by rw [hZ]; rfl⟩)
  have H45:=Lib.hid h45
  obtain ⟨W0,hW0⟩ : ∃ W0,W0=w.alloc (.cells #[.bool false,.slice none 0 0] 39):=⟨_,rfl⟩
  have hT0:Two W0 w.heap.size 39 (.bool false) (.slice none 0 0):=by rw [hW0]; exact Two.new w _ _ _
  have hB0:Below w.heap.size w W0:=by rw [hW0]; exact (Below.refl _ _).alloc (Nat.le_refl _) _
  have hs0:w.heap.size≤W0.heap.size:=hB0.size
  have HT0:=Lib.hid hT0
  have HB0:=Lib.hid hB0
  clear hT0 hB0
  subst hW0
  obtain ⟨L,hL⟩ : ∃ L,L=d.length:=⟨_,rfl⟩
  have HL:Hid (∀ k,k < L→k < d.length):=Lib.hid (fun k h=>by omega)
  have HLL:Hid (∀ k,L≤k→d.length≤k):=Lib.hid (fun k h=>by omega)
  have hDs:D.size=L:=by rw [hD,hL]; simp [ByteArray.size]
  have HAT:Hid (∀ k (h:k < L),∃ (hs:k < D.size) (b:Nat),((D[k]'hs).toNat:Int)=(b:Int)∧b=(d[k]'(HL.out k h)).toNat):=Lib.hid (fun k h=>⟨by omega,_,rfl,by subst hD; rfl⟩)
  have hL4:L≤400:=by omega
  rw [← hD]
  clear hD hZ h45 hdl hl hL
  rcases Nat.eq_zero_or_pos L with h0 | h0
  · have HZ:=Lib.hid (HNO.out (fun hf=>by have:=HLL.out 0 (by omega); have:=hf.1.1; omega))
    obtain ⟨d0,d1,g0,g1⟩:=HT0.out.facts
    go_enter bs9,bta
    go_wp2_with fail
    refine bodyPost_ret (v := .tuple #[.agg #[.bool false,.slice none 0 0],.int .i64 2]) (by simp [results,Tryz.results114,go_sem,d0,d1]) rfl ?_
    exact .inr ⟨HZ.out,rfl,HB0.out⟩
  · obtain ⟨a9Q,b0,hb0,hbd0⟩:=HAT.out 0 h0
    have bpL:b0≠45:=by rw [hbd0]; exact H45.out _
    have a7i:Hid ((b0=48→L=1)→acz d→Fits false d):=Lib.hid (fun h hd=>bcH hd (HL.out 0 h0) (fun e=>⟨by have:=h (by omega); have:=HL.out 0 h0; have:=HLL.out 1 (by omega); omega,rfl⟩))
    have HBK:Hid (b0=48→1 < L→¬Fits false d):=Lib.hid (fun e h1 hf=>by have:=(bcR hf (HL.out 0 h0) (by omega)).1; have:=HL.out 1 h1; omega)
    have a7E:((b0:Int)==45)=false:=by rw [beq_eq_false_iff_ne]; omega
    clear hbd0 H45
    have hLq:((L:Int)==0)=false:=by rw [beq_eq_false_iff_ne]; omega
    by_cases h48:b0=48
    · by_cases h1:1 < L
      · have HZ:=Lib.hid (HNO.out (HBK.out h48 h1))
        obtain ⟨d0,d1,g0,g1⟩:=HT0.out.facts
        go_enter bs9,bta
        go_wp2_with fail
        refine bodyPost_ret (v := .tuple #[.agg #[.bool false,.slice none 0 0],.int .i64 2]) (by simp [results,Tryz.results114,go_sem,d0,d1]) rfl ?_
        exact .inr ⟨HZ.out,rfl,HB0.out⟩
      · have HFR:=Lib.hid (a7i.out (fun _=>by omega))
        have hL1:L=1:=by omega
        go_enter bs9,bta
        go_wp2_with fail
        go_loopw [6,42] (fun mv iv wr => ∃ (k n' c':Nat) (A':Option Addr),k≤L∧iv = .int .i64 k∧mv = .slice A' n' c'∧n'≤c'∧n'≤k∧Hid ((Uy (aan (d.take k))).length=n')∧Rd wr wr.heap.size A' (Uy (aan (d.take k)))∧Hid (acz (d.take k))∧Below (w.alloc (.cells #[.bool false,.slice none 0 0] 39)).heap.size (w.alloc (.cells #[.bool false,.slice none 0 0] 39)) wr) (fun _ i _=>L - (intOf i).toNat)
        case atStart=>exact ⟨0,0,0,none,Nat.zero_le _,rfl,rfl,Nat.le_refl _,Nat.le_refl _,Lib.hid rfl,Rd.nil_ _ _ _,Lib.hid (by intro x hx; simp at hx),Below.refl _ _⟩
        case round =>
          obtain ⟨k,n',c',A',hk,rfl,rfl,hc',hnk,hlen,hr,hdg,hbw⟩:=hrel
          have T1:=HT0.out.next hbw
          obtain ⟨d0,d1,g0,g1⟩:=T1.facts
          have hbw0:=aaR HB0.out hbw (by omega)
          have a96:=hbw.size
          by_cases hkL:k < L
          · obtain ⟨hks,b,hsk,hb⟩:=HAT.out k hkL
            have HNF:Hid (b < 48∨57 < b → ∀ z,l≠Lib.itoa z):=Lib.hid (fun hh=>HNO.out (fun hf=>by have:=hf.1.2.1 _ (List.getElem_mem (HL.out k hkL)); omega))
            have HMR:Hid (∀ c,b=c+48→c≤9→acz (d.take (k+1))∧aan (d.take (k+1))=aan (d.take k)*10+c):=Lib.hid (fun c hc h9=>⟨a4o (HL.out k hkL) hdg.out (by omega),by rw [a4s (HL.out k hkL)]; omega⟩)
            clear hb
            by_cases hd1:b < 48
            · have HZ:=Lib.hid (HNF.out (.inl hd1))
              go_wp2_with fail
              refine bodyPost_ret (v := .tuple #[.agg #[.bool false,.slice none 0 0],.int .i64 2]) (by simp [results,Tryz.results114,go_sem,d0,d1]) rfl ?_
              exact .inr ⟨HZ.out,rfl,(hbw0.setCell (Nat.le_refl _) _).setCell (Nat.le_refl _) _⟩
            · by_cases hd2:57 < b
              · have HZ:=Lib.hid (HNF.out (.inr hd2))
                go_wp2_with fail
                refine bodyPost_ret (v := .tuple #[.agg #[.bool false,.slice none 0 0],.int .i64 2]) (by simp [results,Tryz.results114,go_sem,d0,d1]) rfl ?_
                exact .inr ⟨HZ.out,rfl,(hbw0.setCell (Nat.le_refl _) _).setCell (Nat.le_refl _) _⟩
              · obtain ⟨c,rfl⟩ : ∃ c,b=c+48:=⟨b - 48,by omega⟩
                have hc9:c≤9:=by omega
                have HM:=Lib.hid (HMR.out c rfl hc9)
                have hsk':((D[k]'hks).toNat:Int)=(c:Int)+48:=by rw [hsk]; omega
                clear HMR HNF hsk hd1 hd2
                have hm1:n'≤16777216:=by omega
                have hdk:k+1≤d.length:=by have:=HL.out k hkL; omega
                have W10:Wds [10]:=by rw [alb]; exact ⟨by omega,ak5⟩
                have WC:Wds [c]:=by rw [alb]; exact ⟨by omega,ak5⟩
                have hl3:(Uy (aan (d.take k)*10)).length≤k+1:=aj9 (Nat.lt_of_lt_of_le (Nat.mul_lt_mul_of_lt_of_le (a4r hdg.out (by omega)) (show 10≤4294967296 by omega) (by omega)) (by rw [afC,Nat.mul_comm]; exact Nat.le_refl _))
                have hl4:Hid ((Uy (aan (d.take (k+1)))).length≤k+1):=Lib.hid (aj9 (a4r HM.out.1 hdk))
                have HTM:Hid (∀ (W:World) (g:Nat),Rd W wr.heap.size A' (Uy (aan (d.take k)))→Rd W W.heap.size (some ⟨g,0,none⟩) [10]→wr.heap.size≤W.heap.size→Calls Tryz.prog 166 #[.slice A' n' c',.slice (some ⟨g,0,none⟩) 1 1] W (a2S W (aan (d.take k)*10))):=Lib.hid (fun W g h1 h2 h3 =>
                  (a8h A' _ (Uy (aan (d.take k))) [10] n' 1 c' 1 wr.heap.size W.heap.size W h1 h2 h3 (Nat.le_refl _) hlen.out rfl hm1 (by omega)).mono fun e w' hh=>by rw [aar,show val [10]=10 from rfl] at hh; exact a5k hh)
                have HPL:Hid (∀ (W:World) (g g3 n3 c3:Nat),Hid ((Uy (aan (d.take k)*10)).length=n3)→Rd W W.heap.size (some ⟨g3,0,none⟩) (Uy (aan (d.take k)*10))→Rd W W.heap.size (some ⟨g,0,none⟩) [c]→Calls Tryz.prog 162 #[.slice (some ⟨g3,0,none⟩) n3 c3,.slice (some ⟨g,0,none⟩) 1 1] W (a2S W (aan (d.take (k+1))))):=Lib.hid (fun W g g3 n3 c3 h0 h1 h2 =>
                  (a6P _ _ (Uy (aan (d.take k)*10)) [c] n3 1 c3 1 W.heap.size W.heap.size W h1 h2 (Nat.le_refl _) (Nat.le_refl _) h0.out rfl (by have:=h0.out; omega) (by omega)).mono fun e w' hh=>by rw [aar,show val [c]=c by simp [val],← HM.out.2] at hh; exact a5k hh)
                have hw8:IntKind.u8.wrap (c:Int)=(c:Int):=IntWalk.u8_in _ (by omega)
                have hw32:IntKind.u32.wrap (c:Int)=(c:Int):=IntWalk.u32_in _ (by omega)
                have hA:=Below.refl wr.heap.size wr
                clear hlen hl3 hdk
                go_wp2_with fail
                go_region_held3 (fun _=>True) (exact trivial)
                  (first
                    | (go_at_call 162
                       refine (HPL.out _ _ g3 _ _ hn3 ?_ ?_).mono ?_
                       · refine Blk.rd (t:=99) ?_ (acy _)
                         with_reducible repeat' (first | exact hblk3 | refine Blk.drew ?_ | refine Blk.alloc ?_ _)
                       · refine Blk.rd (t:=99) ?_ WC
                         with_reducible repeat' (first | exact bak _ _ _ | exact bam _ _ _ _ | refine Blk.drew ?_ | refine Blk.alloc ?_ _ | refine Blk.below ?_ hb3 ?_ | simp | omega)
                       rintro e w4 ⟨g4,n4,c4,rfl,hn4,hc4,hg4,aNr,hb4⟩
                       have hA4:Below wr.heap.size wr w4:=by
                         refine aaR ?_ hb4 (by simp)
                         with_reducible repeat' (first | exact hA | exact Nat.le_refl _ | exact hA.size | refine Below.drew ?_ | refine Below.alloc ?_ ?_ _ | simp | omega))
                    | (go_at_call 166
                       refine (HTM.out _ _ ?_ ?_ ?_).mono ?_
                       · with_reducible repeat' (first | exact hr | refine Rd.drew ?_ | refine Rd.alloc ?_ ?_ _ | exact Nat.le_refl _ | simp | omega)
                       · refine Blk.rd (t:=99) ?_ W10
                         with_reducible repeat' (first | exact ban _ _ | exact bao _ _ _ | refine Blk.drew ?_ | refine Blk.alloc ?_ _)
                       · (simp; try omega)
                       rintro e w3 ⟨g3,n3,c3,rfl,hn3,hc3,hg3,hblk3,hb3⟩
                       have hA:Below wr.heap.size wr w3:=by
                         refine aaR ?_ hb3 (by simp)
                         with_reducible repeat' (first | exact hA | exact Nat.le_refl _ | refine Below.drew ?_ | refine Below.alloc ?_ ?_ _ | simp | omega)))
                all_goals
                  have HBW:=aaR hbw hA4 (Nat.le_refl _)
                  have HR4:=aNr.rd (acy _)
                  go_wp2_with fail
                  go_roundw
                  case rel=>exact ⟨k+1,_,c4,_,by omega,by go_num,rfl,hc4,by rw [← hn4.out]; exact hl4.out,hn4,HR4,Lib.hid HM.out.1,HBW⟩
                  case measure=>simp [intOf]; omega
          · have HF:Hid (Fits false d):=Lib.hid (HFR.out (by have h9:=hdg.out; rwa [List.take_of_length_le (HLL.out k (by omega))] at h9))
            have hlen':Hid ((Uy (aan d)).length=n'):=Lib.hid (by have h9:=hlen.out; rwa [List.take_of_length_le (HLL.out k (by omega))] at h9)
            rw [List.take_of_length_le (HLL.out k (by omega))] at hr
            have HY:=Lib.hid (a7k.out HF.out)
            have hn16:n'≤4294967296:=by omega
            obtain rfl:k=L:=by omega
            clear hlen hdg
            go_wp2_with fail
            refine (a4v false A' (Uy (aan d)) n' c' _ Z _ hr (Nat.le_refl _) hlen'.out hn16 (by rw [aar]; exact HY.out.2)).mono ?_
            rintro e w5 ⟨A5,c5,rfl,hc5,hr5,hb5⟩
            have V2:=T1.next hb5
            obtain ⟨d0,d1,g0,g1⟩:=V2.facts
            go_wp2_with fail
            refine bodyPost_ret (v := .tuple #[.agg #[.bool (sg Z),.slice A5 (mg Z).length c5],.int .i64 0]) (by simp [results,Tryz.results114,go_sem,d0,d1]) rfl ?_
            obtain ⟨A6,c6,he,h1,h2,h3⟩:=alf V2 hr5 (Nat.le_refl _) hc5 (aaR hbw0 hb5 (Nat.le_refl _)) (by omega)
            injection he with he
            injection he with he
            simp at he
            obtain ⟨rfl,rfl⟩:=he
            exact .inl ⟨Z,A5,c5,HY.out.1,rfl,h1,h2,h3⟩
    · have HFR:=Lib.hid (a7i.out (fun h=>absurd h h48))
      have hb48:((b0:Int)==48)=false:=by rw [beq_eq_false_iff_ne]; omega
      go_enter bs9,bta
      go_wp2_with fail
      go_loopw [6,42] (fun mv iv wr => ∃ (k n' c':Nat) (A':Option Addr),k≤L∧iv = .int .i64 k∧mv = .slice A' n' c'∧n'≤c'∧n'≤k∧Hid ((Uy (aan (d.take k))).length=n')∧Rd wr wr.heap.size A' (Uy (aan (d.take k)))∧Hid (acz (d.take k))∧Below (w.alloc (.cells #[.bool false,.slice none 0 0] 39)).heap.size (w.alloc (.cells #[.bool false,.slice none 0 0] 39)) wr) (fun _ i _=>L - (intOf i).toNat)
      case atStart=>exact ⟨0,0,0,none,Nat.zero_le _,rfl,rfl,Nat.le_refl _,Nat.le_refl _,Lib.hid rfl,Rd.nil_ _ _ _,Lib.hid (by intro x hx; simp at hx),Below.refl _ _⟩
      case round =>
        obtain ⟨k,n',c',A',hk,rfl,rfl,hc',hnk,hlen,hr,hdg,hbw⟩:=hrel
        have T1:=HT0.out.next hbw
        obtain ⟨d0,d1,g0,g1⟩:=T1.facts
        have hbw0:=aaR HB0.out hbw (by omega)
        have a96:=hbw.size
        by_cases hkL:k < L
        · obtain ⟨hks,b,hsk,hb⟩:=HAT.out k hkL
          have HNF:Hid (b < 48∨57 < b → ∀ z,l≠Lib.itoa z):=Lib.hid (fun hh=>HNO.out (fun hf=>by have:=hf.1.2.1 _ (List.getElem_mem (HL.out k hkL)); omega))
          have HMR:Hid (∀ c,b=c+48→c≤9→acz (d.take (k+1))∧aan (d.take (k+1))=aan (d.take k)*10+c):=Lib.hid (fun c hc h9=>⟨a4o (HL.out k hkL) hdg.out (by omega),by rw [a4s (HL.out k hkL)]; omega⟩)
          clear hb
          by_cases hd1:b < 48
          · have HZ:=Lib.hid (HNF.out (.inl hd1))
            go_wp2_with fail
            refine bodyPost_ret (v := .tuple #[.agg #[.bool false,.slice none 0 0],.int .i64 2]) (by simp [results,Tryz.results114,go_sem,d0,d1]) rfl ?_
            exact .inr ⟨HZ.out,rfl,(hbw0.setCell (Nat.le_refl _) _).setCell (Nat.le_refl _) _⟩
          · by_cases hd2:57 < b
            · have HZ:=Lib.hid (HNF.out (.inr hd2))
              go_wp2_with fail
              refine bodyPost_ret (v := .tuple #[.agg #[.bool false,.slice none 0 0],.int .i64 2]) (by simp [results,Tryz.results114,go_sem,d0,d1]) rfl ?_
              exact .inr ⟨HZ.out,rfl,(hbw0.setCell (Nat.le_refl _) _).setCell (Nat.le_refl _) _⟩
            · obtain ⟨c,rfl⟩ : ∃ c,b=c+48:=⟨b - 48,by omega⟩
              have hc9:c≤9:=by omega
              have HM:=Lib.hid (HMR.out c rfl hc9)
              have hsk':((D[k]'hks).toNat:Int)=(c:Int)+48:=by rw [hsk]; omega
              clear HMR HNF hsk hd1 hd2
              have hm1:n'≤16777216:=by omega
              have hdk:k+1≤d.length:=by have:=HL.out k hkL; omega
              have W10:Wds [10]:=by rw [alb]; exact ⟨by omega,ak5⟩
              have WC:Wds [c]:=by rw [alb]; exact ⟨by omega,ak5⟩
              have hl3:(Uy (aan (d.take k)*10)).length≤k+1:=aj9 (Nat.lt_of_lt_of_le (Nat.mul_lt_mul_of_lt_of_le (a4r hdg.out (by omega)) (show 10≤4294967296 by omega) (by omega)) (by rw [afC,Nat.mul_comm]; exact Nat.le_refl _))
              have hl4:Hid ((Uy (aan (d.take (k+1)))).length≤k+1):=Lib.hid (aj9 (a4r HM.out.1 hdk))
              have HTM:Hid (∀ (W:World) (g:Nat),Rd W wr.heap.size A' (Uy (aan (d.take k)))→Rd W W.heap.size (some ⟨g,0,none⟩) [10]→wr.heap.size≤W.heap.size→Calls Tryz.prog 166 #[.slice A' n' c',.slice (some ⟨g,0,none⟩) 1 1] W (a2S W (aan (d.take k)*10))):=Lib.hid (fun W g h1 h2 h3 =>
                (a8h A' _ (Uy (aan (d.take k))) [10] n' 1 c' 1 wr.heap.size W.heap.size W h1 h2 h3 (Nat.le_refl _) hlen.out rfl hm1 (by omega)).mono fun e w' hh=>by rw [aar,show val [10]=10 from rfl] at hh; exact a5k hh)
              have HPL:Hid (∀ (W:World) (g g3 n3 c3:Nat),Hid ((Uy (aan (d.take k)*10)).length=n3)→Rd W W.heap.size (some ⟨g3,0,none⟩) (Uy (aan (d.take k)*10))→Rd W W.heap.size (some ⟨g,0,none⟩) [c]→Calls Tryz.prog 162 #[.slice (some ⟨g3,0,none⟩) n3 c3,.slice (some ⟨g,0,none⟩) 1 1] W (a2S W (aan (d.take (k+1))))):=Lib.hid (fun W g g3 n3 c3 h0 h1 h2 =>
                (a6P _ _ (Uy (aan (d.take k)*10)) [c] n3 1 c3 1 W.heap.size W.heap.size W h1 h2 (Nat.le_refl _) (Nat.le_refl _) h0.out rfl (by have:=h0.out; omega) (by omega)).mono fun e w' hh=>by rw [aar,show val [c]=c by simp [val],← HM.out.2] at hh; exact a5k hh)
              have hw8:IntKind.u8.wrap (c:Int)=(c:Int):=IntWalk.u8_in _ (by omega)
              have hw32:IntKind.u32.wrap (c:Int)=(c:Int):=IntWalk.u32_in _ (by omega)
              have hA:=Below.refl wr.heap.size wr
              clear hlen hl3 hdk
              go_wp2_with fail
              go_region_held3 (fun _=>True) (exact trivial)
                (first
                  | (go_at_call 162
                     refine (HPL.out _ _ g3 _ _ hn3 ?_ ?_).mono ?_
                     · refine Blk.rd (t:=99) ?_ (acy _)
                       with_reducible repeat' (first | exact hblk3 | refine Blk.drew ?_ | refine Blk.alloc ?_ _)
                     · refine Blk.rd (t:=99) ?_ WC
                       with_reducible repeat' (first | exact bak _ _ _ | exact bam _ _ _ _ | refine Blk.drew ?_ | refine Blk.alloc ?_ _ | refine Blk.below ?_ hb3 ?_ | simp | omega)
                     rintro e w4 ⟨g4,n4,c4,rfl,hn4,hc4,hg4,aNr,hb4⟩
                     have hA4:Below wr.heap.size wr w4:=by
                       refine aaR ?_ hb4 (by simp)
                       with_reducible repeat' (first | exact hA | exact Nat.le_refl _ | exact hA.size | refine Below.drew ?_ | refine Below.alloc ?_ ?_ _ | simp | omega))
                  | (go_at_call 166
                     refine (HTM.out _ _ ?_ ?_ ?_).mono ?_
                     · with_reducible repeat' (first | exact hr | refine Rd.drew ?_ | refine Rd.alloc ?_ ?_ _ | exact Nat.le_refl _ | simp | omega)
                     · refine Blk.rd (t:=99) ?_ W10
                       with_reducible repeat' (first | exact ban _ _ | exact bao _ _ _ | refine Blk.drew ?_ | refine Blk.alloc ?_ _)
                     · (simp; try omega)
                     rintro e w3 ⟨g3,n3,c3,rfl,hn3,hc3,hg3,hblk3,hb3⟩
                     have hA:Below wr.heap.size wr w3:=by
                       refine aaR ?_ hb3 (by simp)
                       with_reducible repeat' (first | exact hA | exact Nat.le_refl _ | refine Below.drew ?_ | refine Below.alloc ?_ ?_ _ | simp | omega)))
              all_goals
                have HBW:=aaR hbw hA4 (Nat.le_refl _)
                have HR4:=aNr.rd (acy _)
                go_wp2_with fail
                go_roundw
                case rel=>exact ⟨k+1,_,c4,_,by omega,by go_num,rfl,hc4,by rw [← hn4.out]; exact hl4.out,hn4,HR4,Lib.hid HM.out.1,HBW⟩
                case measure=>simp [intOf]; omega
        · have HF:Hid (Fits false d):=Lib.hid (HFR.out (by have h9:=hdg.out; rwa [List.take_of_length_le (HLL.out k (by omega))] at h9))
          have hlen':Hid ((Uy (aan d)).length=n'):=Lib.hid (by have h9:=hlen.out; rwa [List.take_of_length_le (HLL.out k (by omega))] at h9)
          rw [List.take_of_length_le (HLL.out k (by omega))] at hr
          have HY:=Lib.hid (a7k.out HF.out)
          have hn16:n'≤4294967296:=by omega
          obtain rfl:k=L:=by omega
          clear hlen hdg
          go_wp2_with fail
          refine (a4v false A' (Uy (aan d)) n' c' _ Z _ hr (Nat.le_refl _) hlen'.out hn16 (by rw [aar]; exact HY.out.2)).mono ?_
          rintro e w5 ⟨A5,c5,rfl,hc5,hr5,hb5⟩
          have V2:=T1.next hb5
          obtain ⟨d0,d1,g0,g1⟩:=V2.facts
          go_wp2_with fail
          refine bodyPost_ret (v := .tuple #[.agg #[.bool (sg Z),.slice A5 (mg Z).length c5],.int .i64 0]) (by simp [results,Tryz.results114,go_sem,d0,d1]) rfl ?_
          obtain ⟨A6,c6,he,h1,h2,h3⟩:=alf V2 hr5 (Nat.le_refl _) hc5 (aaR hbw0 hb5 (Nat.le_refl _)) (by omega)
          injection he with he
          injection he with he
          simp at he
          obtain ⟨rfl,rfl⟩:=he
          exact .inl ⟨Z,A5,c5,HY.out.1,rfl,h1,h2,h3⟩
set_option maxRecDepth 100000 in
set_option maxHeartbeats 6400000 in
theorem bm7 (d l:List UInt8) (w:World) (hl:d.length≤400) (hdl:l=45 :: d) :
    Calls Tryz.prog 114 #[.string ⟨(45 :: d).toArray⟩] w (a9j w l):=by
  obtain ⟨D,hD⟩ : ∃ D:ByteArray,D=⟨d.toArray⟩:=⟨_,rfl⟩
  obtain ⟨S,hS⟩ : ∃ S:ByteArray,S=⟨(45 :: d).toArray⟩:=⟨_,rfl⟩
  obtain ⟨Z,hZ⟩ : ∃ Z:Int,Z = -(aan d:Int):=⟨_,rfl⟩
  have HNO:Hid (¬Fits true d → ∀ z,l≠Lib.itoa z):=Lib.hid (fun h=>by rw [hdl]; exact bld h)
  have a7k:Hid (Fits true d→l=Lib.itoa Z∧Z=if true=true then -(aan d:Int) else (aan d:Int)):=Lib.hid (fun h=>⟨by rw [hdl,hZ]; exact bcS h,by rw [hZ]; rfl⟩)
  obtain ⟨W0,hW0⟩ : ∃ W0,W0=w.alloc (.cells #[.bool false,.slice none 0 0] 39):=⟨_,rfl⟩
  have hT0:Two W0 w.heap.size 39 (.bool false) (.slice none 0 0):=by rw [hW0]; exact Two.new w _ _ _
  have hB0:Below w.heap.size w W0:=by rw [hW0]; exact (Below.refl _ _).alloc (Nat.le_refl _) _
  have hs0:w.heap.size≤W0.heap.size:=hB0.size
  have HT0:=Lib.hid hT0
  have HB0:=Lib.hid hB0
  clear hT0 hB0
  subst hW0
  obtain ⟨L,hL⟩ : ∃ L,L=d.length:=⟨_,rfl⟩
  have HL:Hid (∀ k,k < L→k < d.length):=Lib.hid (fun k h=>by omega)
  have HLL:Hid (∀ k,L≤k→d.length≤k):=Lib.hid (fun k h=>by omega)
  have hDs:D.size=L:=by rw [hD,hL]; simp [ByteArray.size]
  have HAT:Hid (∀ k (h:k < L),∃ (hs:k < D.size) (b:Nat),((D[k]'hs).toNat:Int)=(b:Int)∧b=(d[k]'(HL.out k h)).toNat):=Lib.hid (fun k h=>⟨by omega,_,rfl,by subst hD; rfl⟩)
  have hL4:L≤400:=by omega
  obtain ⟨M,hM⟩ : ∃ M,M=d.length+1:=⟨_,rfl⟩
  have hsz:S.size=M:=by rw [hS,hM]; simp [ByteArray.size]
  have hs0':0 < S.size:=by omega
  have hM1:1≤M:=by omega
  have hM2:M≤401:=by omega
  obtain ⟨b,hb⟩ : ∃ b:Nat,b=45:=⟨_,rfl⟩
  have hsb:((S[0]'hs0').toNat:Int)=(b:Int):=by subst hS; rw [hb]; rfl
  have a7E:((b:Int)==45)=true:=by rw [hb]; rfl
  have hx1:S.extract 1 M=D:=by rw [hS,hD,hM,a6g]; simp
  rw [← hS]
  clear hD hS hZ hdl hl hL hb hM
  rcases Nat.eq_zero_or_pos L with h0 | h0
  · have HZ:=Lib.hid (HNO.out (fun hf=>by have:=HLL.out 0 (by omega); have:=hf.1.1; omega))
    obtain ⟨d0,d1,g0,g1⟩:=HT0.out.facts
    go_enter bs9,bta
    go_wp2_with fail
    refine bodyPost_ret (v := .tuple #[.agg #[.bool false,.slice none 0 0],.int .i64 2]) (by simp [results,Tryz.results114,go_sem,d0,d1]) rfl ?_
    exact .inr ⟨HZ.out,rfl,HB0.out⟩
  · obtain ⟨a9Q,b0,hb0,hbd0⟩:=HAT.out 0 h0
    have a7i:Hid (b0≠48→acz d→Fits true d):=Lib.hid (fun h hd=>bcH hd (HL.out 0 h0) (fun e=>absurd (by omega) h))
    have HBK:Hid (b0=48→¬Fits true d):=Lib.hid (fun e hf=>by have:=(bcR hf (HL.out 0 h0) (by omega)).2; cases this)
    clear hbd0
    have hLq:((L:Int)==0)=false:=by rw [beq_eq_false_iff_ne]; omega
    by_cases h48:b0=48
    · have HZ:=Lib.hid (HNO.out (HBK.out h48))
      obtain ⟨d0,d1,g0,g1⟩:=HT0.out.facts
      by_cases h1:1 < L
      · go_enter bs9,bta
        go_wp2_with fail
        refine bodyPost_ret (v := .tuple #[.agg #[.bool false,.slice none 0 0],.int .i64 2]) (by simp [results,Tryz.results114,go_sem,d0,d1]) rfl ?_
        exact .inr ⟨HZ.out,rfl,HB0.out⟩
      · have hL1:L=1:=by omega
        go_enter bs9,bta
        go_wp2_with fail
        refine bodyPost_ret (v := .tuple #[.agg #[.bool false,.slice none 0 0],.int .i64 2]) (by simp [results,Tryz.results114,go_sem,d0,d1]) rfl ?_
        exact .inr ⟨HZ.out,rfl,HB0.out⟩
    · have HFR:=Lib.hid (a7i.out h48)
      have hb48:((b0:Int)==48)=false:=by rw [beq_eq_false_iff_ne]; omega
      go_enter bs9,bta
      go_wp2_with fail
      go_loopw [6,42] (fun mv iv wr => ∃ (k n' c':Nat) (A':Option Addr),k≤L∧iv = .int .i64 k∧mv = .slice A' n' c'∧n'≤c'∧n'≤k∧Hid ((Uy (aan (d.take k))).length=n')∧Rd wr wr.heap.size A' (Uy (aan (d.take k)))∧Hid (acz (d.take k))∧Below (w.alloc (.cells #[.bool false,.slice none 0 0] 39)).heap.size (w.alloc (.cells #[.bool false,.slice none 0 0] 39)) wr) (fun _ i _=>L - (intOf i).toNat)
      case atStart=>exact ⟨0,0,0,none,Nat.zero_le _,rfl,rfl,Nat.le_refl _,Nat.le_refl _,Lib.hid rfl,Rd.nil_ _ _ _,Lib.hid (by intro x hx; simp at hx),Below.refl _ _⟩
      case round =>
        obtain ⟨k,n',c',A',hk,rfl,rfl,hc',hnk,hlen,hr,hdg,hbw⟩:=hrel
        have T1:=HT0.out.next hbw
        obtain ⟨d0,d1,g0,g1⟩:=T1.facts
        have hbw0:=aaR HB0.out hbw (by omega)
        have a96:=hbw.size
        by_cases hkL:k < L
        · obtain ⟨hks,b,hsk,hb⟩:=HAT.out k hkL
          have HNF:Hid (b < 48∨57 < b → ∀ z,l≠Lib.itoa z):=Lib.hid (fun hh=>HNO.out (fun hf=>by have:=hf.1.2.1 _ (List.getElem_mem (HL.out k hkL)); omega))
          have HMR:Hid (∀ c,b=c+48→c≤9→acz (d.take (k+1))∧aan (d.take (k+1))=aan (d.take k)*10+c):=Lib.hid (fun c hc h9=>⟨a4o (HL.out k hkL) hdg.out (by omega),by rw [a4s (HL.out k hkL)]; omega⟩)
          clear hb
          by_cases hd1:b < 48
          · have HZ:=Lib.hid (HNF.out (.inl hd1))
            go_wp2_with fail
            refine bodyPost_ret (v := .tuple #[.agg #[.bool false,.slice none 0 0],.int .i64 2]) (by simp [results,Tryz.results114,go_sem,d0,d1]) rfl ?_
            exact .inr ⟨HZ.out,rfl,(hbw0.setCell (Nat.le_refl _) _).setCell (Nat.le_refl _) _⟩
          · by_cases hd2:57 < b
            · have HZ:=Lib.hid (HNF.out (.inr hd2))
              go_wp2_with fail
              refine bodyPost_ret (v := .tuple #[.agg #[.bool false,.slice none 0 0],.int .i64 2]) (by simp [results,Tryz.results114,go_sem,d0,d1]) rfl ?_
              exact .inr ⟨HZ.out,rfl,(hbw0.setCell (Nat.le_refl _) _).setCell (Nat.le_refl _) _⟩
            · obtain ⟨c,rfl⟩ : ∃ c,b=c+48:=⟨b - 48,by omega⟩
              have hc9:c≤9:=by omega
              have HM:=Lib.hid (HMR.out c rfl hc9)
              have hsk':((D[k]'hks).toNat:Int)=(c:Int)+48:=by rw [hsk]; omega
              clear HMR HNF hsk hd1 hd2
              have hm1:n'≤16777216:=by omega
              have hdk:k+1≤d.length:=by have:=HL.out k hkL; omega
              have W10:Wds [10]:=by rw [alb]; exact ⟨by omega,ak5⟩
              have WC:Wds [c]:=by rw [alb]; exact ⟨by omega,ak5⟩
              have hl3:(Uy (aan (d.take k)*10)).length≤k+1:=aj9 (Nat.lt_of_lt_of_le (Nat.mul_lt_mul_of_lt_of_le (a4r hdg.out (by omega)) (show 10≤4294967296 by omega) (by omega)) (by rw [afC,Nat.mul_comm]; exact Nat.le_refl _))
              have hl4:Hid ((Uy (aan (d.take (k+1)))).length≤k+1):=Lib.hid (aj9 (a4r HM.out.1 hdk))
              have HTM:Hid (∀ (W:World) (g:Nat),Rd W wr.heap.size A' (Uy (aan (d.take k)))→Rd W W.heap.size (some ⟨g,0,none⟩) [10]→wr.heap.size≤W.heap.size→Calls Tryz.prog 166 #[.slice A' n' c',.slice (some ⟨g,0,none⟩) 1 1] W (a2S W (aan (d.take k)*10))):=Lib.hid (fun W g h1 h2 h3 =>
                (a8h A' _ (Uy (aan (d.take k))) [10] n' 1 c' 1 wr.heap.size W.heap.size W h1 h2 h3 (Nat.le_refl _) hlen.out rfl hm1 (by omega)).mono fun e w' hh=>by rw [aar,show val [10]=10 from rfl] at hh; exact a5k hh)
              have HPL:Hid (∀ (W:World) (g g3 n3 c3:Nat),Hid ((Uy (aan (d.take k)*10)).length=n3)→Rd W W.heap.size (some ⟨g3,0,none⟩) (Uy (aan (d.take k)*10))→Rd W W.heap.size (some ⟨g,0,none⟩) [c]→Calls Tryz.prog 162 #[.slice (some ⟨g3,0,none⟩) n3 c3,.slice (some ⟨g,0,none⟩) 1 1] W (a2S W (aan (d.take (k+1))))):=Lib.hid (fun W g g3 n3 c3 h0 h1 h2 =>
                (a6P _ _ (Uy (aan (d.take k)*10)) [c] n3 1 c3 1 W.heap.size W.heap.size W h1 h2 (Nat.le_refl _) (Nat.le_refl _) h0.out rfl (by have:=h0.out; omega) (by omega)).mono fun e w' hh=>by rw [aar,show val [c]=c by simp [val],← HM.out.2] at hh; exact a5k hh)
              have hw8:IntKind.u8.wrap (c:Int)=(c:Int):=IntWalk.u8_in _ (by omega)
              have hw32:IntKind.u32.wrap (c:Int)=(c:Int):=IntWalk.u32_in _ (by omega)
              have hA:=Below.refl wr.heap.size wr
              clear hlen hl3 hdk
              go_wp2_with fail
              go_region_held3 (fun _=>True) (exact trivial)
                (first
                  | (go_at_call 162
                     refine (HPL.out _ _ g3 _ _ hn3 ?_ ?_).mono ?_
                     · refine Blk.rd (t:=99) ?_ (acy _)
                       with_reducible repeat' (first | exact hblk3 | refine Blk.drew ?_ | refine Blk.alloc ?_ _)
                     · refine Blk.rd (t:=99) ?_ WC
                       with_reducible repeat' (first | exact bak _ _ _ | exact bam _ _ _ _ | refine Blk.drew ?_ | refine Blk.alloc ?_ _ | refine Blk.below ?_ hb3 ?_ | simp | omega)
                     rintro e w4 ⟨g4,n4,c4,rfl,hn4,hc4,hg4,aNr,hb4⟩
                     have hA4:Below wr.heap.size wr w4:=by
                       refine aaR ?_ hb4 (by simp)
                       with_reducible repeat' (first | exact hA | exact Nat.le_refl _ | exact hA.size | refine Below.drew ?_ | refine Below.alloc ?_ ?_ _ | simp | omega))
                  | (go_at_call 166
                     refine (HTM.out _ _ ?_ ?_ ?_).mono ?_
                     · with_reducible repeat' (first | exact hr | refine Rd.drew ?_ | refine Rd.alloc ?_ ?_ _ | exact Nat.le_refl _ | simp | omega)
                     · refine Blk.rd (t:=99) ?_ W10
                       with_reducible repeat' (first | exact ban _ _ | exact bao _ _ _ | refine Blk.drew ?_ | refine Blk.alloc ?_ _)
                     · (simp; try omega)
                     rintro e w3 ⟨g3,n3,c3,rfl,hn3,hc3,hg3,hblk3,hb3⟩
                     have hA:Below wr.heap.size wr w3:=by
                       refine aaR ?_ hb3 (by simp)
                       with_reducible repeat' (first | exact hA | exact Nat.le_refl _ | refine Below.drew ?_ | refine Below.alloc ?_ ?_ _ | simp | omega)))
              all_goals
                have HBW:=aaR hbw hA4 (Nat.le_refl _)
                have HR4:=aNr.rd (acy _)
                go_wp2_with fail
                go_roundw
                case rel=>exact ⟨k+1,_,c4,_,by omega,by go_num,rfl,hc4,by rw [← hn4.out]; exact hl4.out,hn4,HR4,Lib.hid HM.out.1,HBW⟩
                case measure=>simp [intOf]; omega
        · have HF:Hid (Fits true d):=Lib.hid (HFR.out (by have h9:=hdg.out; rwa [List.take_of_length_le (HLL.out k (by omega))] at h9))
          have hlen':Hid ((Uy (aan d)).length=n'):=Lib.hid (by have h9:=hlen.out; rwa [List.take_of_length_le (HLL.out k (by omega))] at h9)
          rw [List.take_of_length_le (HLL.out k (by omega))] at hr
          have HY:=Lib.hid (a7k.out HF.out)
          have hn16:n'≤4294967296:=by omega
          obtain rfl:k=L:=by omega
          clear hlen hdg
          go_wp2_with fail
          refine (a4v true A' (Uy (aan d)) n' c' _ Z _ hr (Nat.le_refl _) hlen'.out hn16 (by rw [aar]; exact HY.out.2)).mono ?_
          rintro e w5 ⟨A5,c5,rfl,hc5,hr5,hb5⟩
          have V2:=T1.next hb5
          obtain ⟨d0,d1,g0,g1⟩:=V2.facts
          go_wp2_with fail
          refine bodyPost_ret (v := .tuple #[.agg #[.bool (sg Z),.slice A5 (mg Z).length c5],.int .i64 0]) (by simp [results,Tryz.results114,go_sem,d0,d1]) rfl ?_
          obtain ⟨A6,c6,he,h1,h2,h3⟩:=alf V2 hr5 (Nat.le_refl _) hc5 (aaR hbw0 hb5 (Nat.le_refl _)) (by omega)
          injection he with he
          injection he with he
          simp at he
          obtain ⟨rfl,rfl⟩:=he
          exact .inl ⟨Z,A5,c5,HY.out.1,rfl,h1,h2,h3⟩
theorem beG (l:List UInt8) (w:World) (hl:l.length≤400) :
  Calls Tryz.prog 114 #[.string ⟨l.toArray⟩] w (a9j w l):=by
 by_cases h45 : ∀ h:0 < l.length,(l[0]'h).toNat≠45
 ·exact bm8 l l w hl rfl h45
 ·obtain ⟨d,rfl⟩ : ∃ d,l=45 :: d:=by
   cases l with
   | nil=>exact absurd (fun h=>by simp at h) h45
   | cons x d =>
    refine ⟨d,?_⟩
    rcases Classical.em (x.toNat=45) with hx | hx
    ·rw [show x=45 from UInt8.toNat_inj.1 hx]
    ·exact absurd (fun _=>hx) h45
  exact bm7 d _ w (by clear h45; have h9:=hl; rw [List.length_cons] at h9; omega) rfl
end Go.Proofs.YtbihljnjaondcaaGreatDoor
