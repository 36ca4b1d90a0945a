/- Part of a proof, said shortly. -/
import Derived.Test.YtkcpphebkmnonaaGreatDoorAlz
import Derived.Test.YtkcpphebkmnonaaGreatDoorC16
import Derived.Test.YtkcpphebkmnonaaGreatDoorC15
import Derived.Test.YtkcpphebkmnonaaGreatDoorC11
import Derived.Test.YtkcpphebkmnonaaGreatDoorC12
import Derived.Test.YtkcpphebkmnonaaGreatDoorC10
import Derived.Test.YtkcpphebkmnonaaGreatDoorC9
import Derived.Test.YtkcpphebkmnonaaGreatDoorC8
import Derived.Test.YtkcpphebkmnonaaGreatDoorC5
import Derived.Test.YtkcpphebkmnonaaGreatDoorC2
import Derived.Test.YtkcpphebkmnonaaGreatDoorC1
import Derived.Test.YtkcpphebkmnonaaGreatDoorC4
import Derived.Test.YtkcpphebkmnonaaGreatDoorC3
import Derived.Test.YtkcpphebkmnonaaGreatDoorC7
import Derived.Test.YtkcpphebkmnonaaGreatDoorC6
import Derived.Test.YtkcpphebkmnonaaGreatDoorC14
import Derived.Test.YtkcpphebkmnonaaGreatDoorC13
namespace Lw
theorem Rp.self{a:Tn}(h:a.1=true->a.2=0):Rp a (if a.1 then 0 else 1) (if a.1 then 1 else a.2):=by
 obtain ⟨u,q⟩:=a
 cases u
 ·exact .inr ⟨rfl,by simp,by simp⟩
 ·exact .inl ⟨rfl,h rfl,rfl,by simp⟩
theorem F7{a b:Tn}(ha:tok a)(hb:tok b):tok (tA a b):=(Rp.add (Rp.self ha) (Rp.self hb)).ok
end Lw
