/- Part of a proof, said shortly. -/
import Derived.LoopN
import Derived.Test.YtbihljnjaondcaaGreatDoorAlz
import Derived.Test.YtbihljnjaondcaaGreatDoorC21
import Derived.Test.YtbihljnjaondcaaGreatDoorC15
import Derived.Test.YtbihljnjaondcaaGreatDoorS9
set_option linter.unusedVariables false
set_option linter.unusedSimpArgs false
namespace bZ
open Go Go.RowKit
section
variable {P:Program} {ops:Array Oper} {Q:Exit→Act→World→Prop} {N:Nat} {T T':List (Nat×Value)} {w:World}
theorem JC.IL {x:Code} {ι:Type} (T':ι→List (Nat×Value)) (G:ι→World→Prop) (hx:JC P x (Exit.then (fun a w => ∃ i,Kn a N (T' i)∧G i w) Q) N T w) (hy : ∀ i w,G i w→JL P #[] Q [] N (T' i) w):JC P x Q N T w:=fun a ha =>
 Code.wp_mono (fun e a w h=>by
  cases e with
  | normal=>obtain ⟨i,hk,hg⟩:=h; exact hy i w hg a hk
  | _=>exact h) (hx a ha)
end
end bZ
