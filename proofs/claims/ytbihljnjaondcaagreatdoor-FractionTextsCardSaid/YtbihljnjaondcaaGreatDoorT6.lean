/- Part of a proof, said shortly. -/
import Derived.Lib.BitFns
import Derived.Laws.AppendOwnNone
import Derived.Test.YtbihljnjaondcaaGreatDoorAlt
import Derived.Test.YtbihljnjaondcaaGreatDoorT4
import Derived.Test.YtbihljnjaondcaaGreatDoorT3
import Derived.Test.YtbihljnjaondcaaGreatDoorT2
import Derived.Test.YtbihljnjaondcaaGreatDoorT1
import Derived.Test.YtbihljnjaondcaaGreatDoorT5
namespace Lw
open Go
def afm (z:Int):Int:=if z < 0 then -1 else if z=0 then 0 else 1
def alQ (l:List Nat):Nat:=if l.length=0 then 0 else (l.length - 1)*32+Lib.bitLen (dg l (l.length - 1))
theorem a7o {x:Nat} (h:x < 4294967296):Lib.bitLen x≤32:=Lib.bitLen_le x 32 (by omega) (by simpa using h)
theorem a1u {z:Int} : (mg z).length=0↔z=0:=by
 rw [List.length_eq_zero_iff]; unfold mg; rw [ak4]; omega
end Lw
namespace Go.Proofs.YtbihljnjaondcaaGreatDoor
open Go Go.RowKit Lw
set_option maxHeartbeats 1600000 in
theorem bhg (A:Option Addr) (ns:List Nat) (n c B:Nat) (w:World) (h:Rd w B A ns) (hn:ns.length=n) (hl:n≤16777216) :
  Calls Tryz.prog 170 #[.slice A n c] w fun e w'=>e = .returned (.int .i64 (alQ ns))∧w=w':=by
 have Hn:=Lib.hid hn
 clear hn
 by_cases h0:n=0
 ·have HN:Hid (0=alQ ns):=Lib.hid (by unfold alQ; rw [if_pos (by rw [Hn.out]; exact h0)])
  subst h0
  go_enter Tryz.func170,Tryz.ntmps170
  go_wp2_with fail
  go_ret
  exact ⟨ahy (by rw [← HN.out]; rfl),rfl⟩
 ·obtain ⟨b,off,rfl,hb,hcell,hlt⟩:=h.at_ (k:=n - 1) (by rw [Hn.out]; omega)
  have hbq:((n:Int)==0)=false:=by rw [beq_eq_false_iff_ne]; omega
  have hbl:=a7o hlt
  have HN:Hid ((n - 1)*32+Lib.bitLen (dg ns (n - 1))=alQ ns):=Lib.hid (by unfold alQ; rw [if_neg (by rw [Hn.out]; exact h0),Hn.out])
  go_enter Tryz.func170,Tryz.ntmps170
  go_wp2_with fail
  refine (Tryz.bits_Len32 _ _ (by omega) (by omega)).mono ?_
  rw [Int.toNat_natCast]
  rintro e w1 ⟨rfl,hw1⟩
  subst hw1
  go_wp2_with fail
  go_ret
  exact ⟨ahy (by rw [← HN.out]; omega),rfl⟩
end Go.Proofs.YtbihljnjaondcaaGreatDoor
namespace Lw
open Go Go.RowKit
theorem addr_add (b off j:Nat):(⟨b,off,none⟩:Addr).add j=⟨b,off+j,none⟩:=by
 unfold Addr.add; split
 ·rename_i h0; subst h0; rfl
 ·rfl
theorem bnt {P:Program} (w:World) (base:Nat) (t ty e:TypeId) (i:TypeInfo) (ht:P.underlying t=some (.slice e)) (hi:P.info? e=some i)
  (v:Value) (n:Nat) (xs:List Value) (hown:w.ownsRow base e 1 v n xs) (c:Nat):(Builtin.append_ #[t,t] ty #[v,.slice none 0 c]).run P w = .ok v w:=by
 rcases hown.2 with ⟨rfl,rfl⟩ | ⟨g,cap,cur,rfl,_,_,hnc,_⟩
 ·simp [Builtin.append_,run_underlying ht,Go.sizeOf,typeInfo,hi,Builtin.lenOf,Builtin.firstCells]
 ·simp [Builtin.append_,run_underlying ht,Go.sizeOf,typeInfo,hi,Builtin.lenOf,Builtin.firstCells,hnc,storeCells]
theorem bbM (a b:List Nat):arr (a++b)=arr a++arr b:=by simp [arr]
theorem Blk.take {w:World} {g:Nat} {t:TypeId} {ns:List Nat} (h:Blk w g t ns) (k:Nat):Blk w g t (ns.take k):=by
 obtain ⟨rest,h⟩:=h
 refine ⟨arr (ns.drop k)++rest,?_⟩
 rw [h,← List.append_assoc,← bbM,List.take_append_drop]
theorem Blk.Uy {w:World} {g:Nat} {t:TypeId} {ns:List Nat} (h:Blk w g t ns) (hw:Wds ns):Blk w g t (Uy (val ns)):=by
 rw [bcn hw]; exact h.take _
theorem bg9 (ns:List Nat) : ∀ u∈arr ns,u.oneCell'=true:=by
 intro u hu
 unfold arr at hu
 rw [List.mem_map] at hu
 obtain ⟨x,_,rfl⟩:=hu
 rfl
theorem Rd.cells {w:World} {B:Nat} {ad:Addr} {ms:List Nat} (h:Rd w B (some ad) ms) : ∀ j u,(arr ms)[j]? = some u→w.cell? (ad.add j)=some u:=by
 intro j u hu
 have hj:j < ms.length:=by
  rcases Nat.lt_or_ge j ms.length with h1 | h1
  ·exact h1
  ·rw [List.getElem?_eq_none (by rw [atC]; exact h1)] at hu; cases hu
 obtain ⟨b,off,hA,hb,hcell⟩:=h.2 (by omega)
 rw [a7n ms j hj] at hu
 injection hA with hA
 subst hA
 rw [← hu,← hcell j hj,addr_add]
theorem a7a {P:Program} (w:World) {ops:Array Oper} {rest:List Oper} {o:Oper} {a:Act} {Q:Exit→Act→World→Prop} (hgd:o.guard=none) (s x:Operand) (t:TypeId)
  (ho:o.op = .call { callee := .builtin .append,args := #[s,x],argTypes := #[t,t] })
  (base:Nat) (e:TypeId) (ht:P.underlying t=some (.slice e)) (hinfo:(P.info? e).map (fun i=>(i.zero,i.size,i.bytes))=some (some (.int .u32 0),1,4))
  (v:Value) (n:Nat) (ns:List Nat) (hs:a.eval s=v) (hown:w.ownsRow base e 1 v n (arr ns))
  (B:Nat) (A:Option Addr) (ms:List Nat) (m c:Nat) (hx:a.eval x = .slice A m c) (hr:Rd w B A ms) (hm:ms.length=m) (hlim:n+m≤1099511627776) (hbase:base≤w.heap.size)
  (h : ∀ v' w',w'.ownsRow base e 1 v' (n+m) (arr (ns++ms))→w.grownBy w' v.ownBlock→(v' = .slice none 0 0↔v = .slice none 0 0∧m=0)→wpList P ops Q rest (a.put o.dst v') w'):wpList P ops Q (o :: rest) a w:=by
 obtain ⟨i,h2,h3,h4,h5⟩:=info_parts hinfo
 rcases A with _ | ad
 ·have h0:m=0:=by
   rcases Nat.eq_zero_or_pos m with h0 | h0
   ·exact h0
   ·obtain ⟨b,off,hA,_⟩:=hr.2 (by omega)
    cases hA
  subst h0
  have e0:ms=[]:=List.eq_nil_of_length_eq_zero hm
  subst e0
  refine wpList_plain hgd fun K hK => ?_
  have hrun:=bnt (P:=P) w base t o.type e i ht h2 v n (arr ns) hown c
  unfold Oper.wp
  simp [execOp,ho,resolve,invoke,builtin,hs,hx,hrun,Result.andThen]
  refine hK _ _ (h v w ?_ (World.grownBy.refl w _) ⟨fun hv=>⟨hv,rfl⟩,fun hv=>hv.1⟩)
  rw [List.append_nil]; exact hown
 ·refine wpList_append_own w hgd s x t ho base e i _ 1 4 ht h2 h3 h4 h5 rfl (by decide) v n (arr ns) hs hown ad m c (arr ms) hx (by rw [atC,hm,Nat.mul_one]) hr.cells (bg9 ms) (by unfold maxLen; omega) (by omega) hbase ?_
  intro v' w' h1 h2 h3
  rw [← bbM] at h1
  exact h v' w' h1 h2 h3
end Lw
