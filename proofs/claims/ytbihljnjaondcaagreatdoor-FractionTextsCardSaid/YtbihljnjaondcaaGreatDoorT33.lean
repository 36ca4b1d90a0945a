/- Part of a proof, said shortly. -/
import Derived.Test.YtbihljnjaondcaaGreatDoorAlt
import Derived.Test.YtbihljnjaondcaaGreatDoorT32
import Derived.Test.YtbihljnjaondcaaGreatDoorT31
set_option linter.unusedVariables false
set_option linter.unusedSimpArgs false
namespace acY
open Go Go.RowKit
theorem bytes_at (l:List UInt8) (j:Nat):(⟨l.toArray⟩:ByteArray)[j]? = l[j]? := by
 have hs:(⟨l.toArray⟩:ByteArray).size=l.length:=by simp [ByteArray.size]
 by_cases h:j < l.length
 ·rw [getElem?_pos (⟨l.toArray⟩:ByteArray) j (by rw [hs]; exact h),getElem?_pos l j h]; rfl
 ·rw [getElem?_neg (⟨l.toArray⟩:ByteArray) j (by rw [hs]; exact h),getElem?_neg l j h]
theorem bbS (l:List UInt8) (i j:Nat):(⟨l.toArray⟩:ByteArray).extract i j=⟨((l.take j).drop i).toArray⟩:=by
 apply ByteArray.ext
 rw [ByteArray.data_extract]
 simp [List.extract_toArray,List.drop_take]
section
variable {P:Program} {ρ:Operand→Value} {w:World} {dst:Option Tmp} {ty:TypeId} {pos:String} {aft:Array Edge} {gd:Option (Nat×Bool)}
theorem ae9 {x:Operand} {t:TypeId} {l:List UInt8} {n:Int} (hx:ρ x = .string ⟨l.toArray⟩) (hu : ∀ w,(underlying t).run P w = .ok .string w) (hn:(l.length:Int)=n) :
  (execOp ρ ⟨dst,.call ⟨.builtin .len,#[x],#[t]⟩,ty,pos,aft,gd⟩).run P w = .ok (.value (.int .i64 n)) w:=by
 subst hn
 rw [bnx hx hu]; simp [ByteArray.size]
theorem afD {t:TypeId} {x y:Operand} {l:List UInt8} {k:IntKind} {i:Int} {j:Nat} {b:UInt8} {c:Int} (hx:ρ x = .string ⟨l.toArray⟩) (hy:ρ y = .int k i) (hu : ∀ w,(underlying t).run P w = .ok .string w) (hi:i=(j:Int)) (hb:l[j]? = some b) (hc:(b.toNat:Int)=c) :
  (execOp ρ ⟨dst,.index t x y,ty,pos,aft,gd⟩).run P w = .ok (.value (.int .u8 c)) w:=by
 subst hi hc
 simp [execOp,hx,hy,Instr.index,asIntOf,hu,bytes_at,hb]
theorem ba0 {t:TypeId} {x y:Operand} {l m:List UInt8} {k:IntKind} {i:Int} {j:Nat} (hx:ρ x = .string ⟨l.toArray⟩) (hy:ρ y = .int k i) (hu : ∀ w,(underlying t).run P w = .ok .string w) (hi:i=(j:Int)) (hj:j≤l.length) (hm:l.take j=m) :
  (execOp ρ ⟨dst,.slice t x none (some y) none,ty,pos,aft,gd⟩).run P w = .ok (.value (.string ⟨m.toArray⟩)) w:=by
 subst hi hm
 have hs:(⟨l.toArray⟩:ByteArray).size=l.length:=by simp [ByteArray.size]
 simp [execOp,hx,hy,Instr.sliceAt,Instr.slice,Instr.sliceBounds,Instr.sliceBound,asIntOf,hu,hs,bbS,hj]
theorem a5e {t:TypeId} {x y:Operand} {l m:List UInt8} {k:IntKind} {i:Int} {j:Nat} (hx:ρ x = .string ⟨l.toArray⟩) (hy:ρ y = .int k i) (hu : ∀ w,(underlying t).run P w = .ok .string w) (hi:i=(j:Int)) (hj:j≤l.length) (hm:l.drop j=m) :
  (execOp ρ ⟨dst,.slice t x (some y) none none,ty,pos,aft,gd⟩).run P w = .ok (.value (.string ⟨m.toArray⟩)) w:=by
 subst hi hm
 have hs:(⟨l.toArray⟩:ByteArray).size=l.length:=by simp [ByteArray.size]
 simp [execOp,hx,hy,Instr.sliceAt,Instr.slice,Instr.sliceBounds,Instr.sliceBound,asIntOf,hu,hs,bbS,hj]
theorem a8o {t t':TypeId} {x y:Operand} {a b:List UInt8} {c:Bool} (hx:ρ x = .string ⟨a.toArray⟩) (hy:ρ y = .string ⟨b.toArray⟩) (h:(a != b)=c) :
  (execOp ρ ⟨dst,.binOp .neq t x y t',ty,pos,aft,gd⟩).run P w = .ok (.value (.bool c)) w:=by
 subst h
 simp [execOp,hx,hy,eqGuard,binOp,Op.stringOp,ByteArray.toList_eq,bne]
end
section
variable {P:Program} {ops:Array Oper} {Q:Exit→Act→World→Prop} {N:Nat} {T:List (Nat×Value)} {w:World}
theorem JC.a8s {id id':Nat} {c:Code} {T':List (Nat×Value)} (hT : ∀ t v,lkp T' t=some v→lkp T t=some v) (h:JC P c Q N T' w):JC P .skip (Exit.inBlock id (Exit.inBlock id' (Exit.then (c.wp P Q) Q))) N T w:=JC.skip fun a ha=>h a (ha.sub hT)
end
end acY
