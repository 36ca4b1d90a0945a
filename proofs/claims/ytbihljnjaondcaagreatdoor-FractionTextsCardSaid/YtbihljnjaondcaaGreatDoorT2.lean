/- Part of a proof, said shortly. -/
import Derived.Test.YtbihljnjaondcaaGreatDoorChecked
import Derived.OwnWalk
import Derived.Test.YtbihljnjaondcaaGreatDoorAlt
import Derived.Test.YtbihljnjaondcaaGreatDoorT1
namespace Lw
theorem a5j {l:List Nat} (h:Wds l) {k:Nat} (hk:k≤l.length) (hv:val (l.take k)=val l) (h0:k=0∨dg l (k - 1)≠0):k=(Uy (val l)).length:=by
 have hl:(l.take k).length=k:=by rw [List.length_take]; omega
 rcases h0 with h0 | h0
 ·subst h0
  rw [List.take_zero] at hv
  rw [← hv]; rfl
 ·rw [← hv]
  rcases Nat.eq_zero_or_pos k with hk0 | hk0
  ·subst hk0
   rw [List.take_zero]; rfl
  ·rw [a7u (a5p h k) (by rw [hl,a7r (by omega)]; exact h0),hl]
theorem ba9 {l:List Nat} {k:Nat} (hk:k≤l.length) (hk0:k≠0) (hv:val (l.take k)=val l) (h0:dg l (k - 1)=0):val (l.take (k - 1))=val l:=by
 have hl:(l.take k).length=k:=by rw [List.length_take]; omega
 have h1:=bfI (l:=l.take k) (by omega) (by rw [hl,a7r (by omega)]; exact h0)
 rw [hl,List.take_take,Nat.min_eq_left (by omega)] at h1
 rw [h1,hv]
theorem aon {l:List Nat} (h:Wds l):(Uy (val l)).length≤l.length:=aj9 (afS h)
end Lw
namespace Go.Proofs.YtbihljnjaondcaaGreatDoor
open Go Go.RowKit Lw
def cnt:Value→Nat | .slice _ n _=>n | _=>0
theorem aor {A:Option Addr} {k m c:Nat} (h:k=m):Ending.returned (.slice A k c)=Ending.returned (.slice A m c):=by rw [h]
set_option maxHeartbeats 400000 in
theorem aOs (A:Option Addr) (ns:List Nat) (n c B:Nat) (w:World) (h:Rd w B A ns) (hn:ns.length=n) (hc:n≤c) (hl:n≤4294967296) :
  Calls Tryz.prog 202 #[.slice A n c] w fun e w'=>e = .returned (.slice A (Uy (val ns)).length c)∧w=w':=by
 have Hn:=Lib.hid hn
 go_enter Tryz.func202,Tryz.ntmps202
 clear hn
 go_wp2
 go_loop [0] (fun v => ∃ k:Nat,k≤n∧v = .slice A k c∧Hid (val (ns.take k)=val ns)) (fun v=>cnt v)
 case atStart=>exact ⟨n,Nat.le_refl _,rfl,Lib.hid (by rw [← Hn.out,List.take_length])⟩
 case round =>
  obtain ⟨k,hk,rfl,hv⟩:=hrel
  by_cases hk0:k=0
  ·subst hk0
   go_wp2
   go_ret
   exact ⟨aor (a5j h.wds (Nat.zero_le _) hv.out (.inl rfl)),rfl⟩
  ·obtain ⟨b,off,rfl,hb,hcell,hlt⟩:=h.at_ (k:=k - 1) (by rw [Hn.out]; omega)
   by_cases hd:dg ns (k - 1)=0
   ·have HV:Hid (val (ns.take (k - 1))=val ns):=Lib.hid (ba9 (by rw [Hn.out]; exact hk) hk0 hv.out hd)
    go_wp2
    go_round
    case rel=>exact ⟨k - 1,by omega,rfl,HV⟩
    case measure=>simp [cnt]; omega
   ·go_wp2
    go_ret
    exact ⟨aor (a5j h.wds (by rw [Hn.out]; exact hk) hv.out (.inr hd)),rfl⟩
end Go.Proofs.YtbihljnjaondcaaGreatDoor
namespace Lw
def wd (l:List Nat) (i:Int):Nat:=if i < 0 then 0 else dg l i.toNat
theorem as7 (l:List Nat) (k:Nat):wd l (k:Int)=dg l k:=by unfold wd; rw [if_neg (by omega),Int.toNat_natCast]
theorem a0t {l:List Nat} (h:Wds l) (i:Int):wd l i < 4294967296:=by
 unfold wd; split
 ·omega
 ·exact ahv h _
theorem bfR {l:List Nat} {i:Int} (h:i < 0):wd l i=0:=by unfold wd; rw [if_pos h]
theorem bkw (l:List Nat):lo l 2=wd l 0+4294967296*wd l 1:=by
 have h0:=as7 l 0
 have h1:=as7 l 1
 have e1:=acw l 0
 have e2:=acw l 1
 rw [akf,aNP] at e1
 have p1:pw 1=4294967296:=rfl
 rw [p1] at e2
 simp only [Nat.zero_add,Nat.reduceAdd,Int.cast_ofNat_Int] at *
 omega
theorem bpb {l:List Nat} {i:Int} (h:(l.length:Int)≤i):wd l i=0:=by unfold wd; rw [if_neg (by omega)]; exact a1F (by omega)
end Lw
namespace Go.Proofs.YtbihljnjaondcaaGreatDoor
open Go Go.RowKit Lw
theorem ahy {k:IntKind} {a b:Int} (h:a=b):Ending.returned (.int k a)=Ending.returned (.int k b):=by rw [h]
set_option maxHeartbeats 400000 in
theorem a0u (A:Option Addr) (ns:List Nat) (n c B:Nat) (i:Int) (w:World) (h:Rd w B A ns) (hn:ns.length=n) (_hl:n≤4294967296) :
  Calls Tryz.prog 204 #[.slice A n c,.int .i64 i] w fun e w'=>e = .returned (.int .u64 (wd ns i:Int))∧w=w':=by
 have Hn:=Lib.hid hn
 clear hn
 by_cases h0:i < 0
 ·go_enter Tryz.func204,Tryz.ntmps204
  go_wp2
  go_ret
  exact ⟨ahy (by rw [bfR h0]; rfl),rfl⟩
 ·by_cases h1:(n:Int)≤i
  ·go_enter Tryz.func204,Tryz.ntmps204
   go_wp2
   go_ret
   exact ⟨ahy (by rw [bpb (by rw [Hn.out]; exact h1)]; rfl),rfl⟩
  ·obtain ⟨k,rfl⟩:=Int.eq_ofNat_of_zero_le (show 0≤i by omega)
   obtain ⟨b,off,rfl,hb,hcell,hlt⟩:=h.at_ (k:=k) (by rw [Hn.out]; omega)
   go_enter Tryz.func204,Tryz.ntmps204
   go_wp2
   go_ret
   exact ⟨ahy (by rw [as7]),rfl⟩
set_option maxHeartbeats 400000 in
theorem a3o (A:Option Addr) (ns:List Nat) (n c B:Nat) (w:World) (h:Rd w B A ns) (hn:ns.length=n) (hl:n≤4294967296) :
  Calls Tryz.prog 234 #[.slice A n c] w fun e w'=>e = .returned (.int .u64 (lo ns 2:Int))∧w=w':=by
 have e0:=a0t h.wds 0
 have e1:=a0t h.wds 1
 have Hn:=Lib.hid hn
 clear hn
 go_enter Tryz.func234,Tryz.ntmps234
 go_wp2_with (go_at_call 204; refine (a0u _ ns _ _ _ _ _ h Hn.out hl).mono ?_; rintro e w' ⟨rfl,rfl⟩)
 go_ret
 exact ⟨ahy (by rw [a3s e1 e0,bkw]),rfl⟩
end Go.Proofs.YtbihljnjaondcaaGreatDoor
namespace Lw
def alg (a b:Nat):Int:=if a < b then -1 else if a=b then 0 else 1
theorem a2V {a b:Nat} (h:a < b):alg a b = -1:=by unfold alg; rw [if_pos h]
theorem a4k {a b:Nat} (h:b < a):alg a b=1:=by unfold alg; rw [if_neg (by omega),if_neg (by omega)]
theorem a6a {a b:Nat} (h:a=b):alg a b=0:=by unfold alg; rw [if_neg (by omega),if_pos h]
def Same (a b:List Nat) (k:Nat):Prop:=a.drop k=b.drop k
theorem bnG {a b:List Nat} {n:Nat} (ha:a.length=n) (hb:b.length=n):Same a b n:=by
 unfold Same; rw [List.drop_of_length_le (by omega),List.drop_of_length_le (by omega)]
theorem bnH {a b:List Nat} {k:Nat} (ha:k < a.length) (hb:k < b.length) (h:Same a b (k+1)) (hd:dg a k=dg b k):Same a b k:=by
 unfold Same at *
 rw [List.drop_eq_getElem_cons ha,List.drop_eq_getElem_cons hb,h,← a1p ha,← a1p hb,hd]
theorem bnI {a b:List Nat} (h:Same a b 0):val a=val b:=by
 unfold Same at h; rw [List.drop_zero,List.drop_zero] at h; rw [h]
theorem bfj {a b:List Nat} {n k:Nat} (wa:Wds a) (ha:a.length=n) (hb:b.length=n) (h:Same a b (k+1)) (hd:dg a k < dg b k):val a < val b:=by
 have h1:=a4a a (k+1)
 have h2:=a4a b (k+1)
 unfold Same at h
 rw [ha,h] at h1
 rw [hb] at h2
 have h3:=ano wa k
 rw [acw] at h1 h2
 have h4:pw k*(dg a k+1)≤pw k*dg b k:=Nat.mul_le_mul_left _ hd
 rw [Nat.mul_add,Nat.mul_one] at h4
 generalize pw (min (k+1) n)*val (b.drop (k+1))=z at *
 omega
end Lw
namespace Go.Proofs.YtbihljnjaondcaaGreatDoor
open Go Go.RowKit Lw
theorem below_drewN' (B:Nat) (w:World) (n:Nat):Below B w (w.drewN n):=⟨rfl,rfl,rfl,Nat.le_refl _,fun _ _=>rfl⟩
set_option maxHeartbeats 400000 in
theorem a0T (A A':Option Addr) (ns ms:List Nat) (n m c c' B B':Nat) (w:World) (h:Rd w B A ns) (h':Rd w B' A' ms) (t:Trm ns) (t':Trm ms)
  (hn:ns.length=n) (hm:ms.length=m) (hl:n≤4294967296) (hl':m≤4294967296) :
  Calls Tryz.prog 180 #[.slice A n c,.slice A' m c'] w fun e w'=>e = .returned (.int .i64 (alg (val ns) (val ms))) ∧ ∃ q,w'=w.drewN q:=by
 have Hn:=Lib.hid hn
 have Hm:=Lib.hid hm
 clear hn hm
 by_cases hnm:n=m
 ·subst hnm
  go_enter Tryz.func180,Tryz.ntmps180
  go_wp2
  go_loopw [5] (fun v wr => ∃ (i:Int) (q:Nat),-1≤i∧i < n∧v = .int .i64 i∧Hid (Same ns ms (i+1).toNat)∧wr=w.drewN q) (fun v _=>(intOf v+1).toNat)
  case atStart=>exact ⟨(n:Int) - 1,0,by omega,by omega,rfl,Lib.hid (by rw [show ((n:Int) - 1+1).toNat=n by omega]; exact bnG Hn.out Hm.out),rfl⟩
  case round =>
   obtain ⟨i,q,hi,hin,rfl,hs,rfl⟩:=hrel
   by_cases h0:i < 0
   ·have HV:Hid (val ns=val ms):=Lib.hid (bnI (by have:=hs.out; rwa [show (i+1).toNat=0 by omega] at this))
    go_wp2
    go_ret
    exact ⟨ahy (by rw [a6a HV.out]),q,rfl⟩
   ·obtain ⟨k,rfl⟩:=Int.eq_ofNat_of_zero_le (show 0≤i by omega)
    have hs1:Hid (Same ns ms (k+1)):=Lib.hid (by have:=hs.out; rwa [show ((k:Int)+1).toNat=k+1 by omega] at this)
    clear hs
    obtain ⟨b,off,rfl,hb,hcell,hlt⟩:=h.at_ (k:=k) (by rw [Hn.out]; omega)
    obtain ⟨b',off',rfl,hb',hcell',hlt'⟩:=h'.at_ (k:=k) (by rw [Hm.out]; omega)
    rcases Nat.lt_trichotomy (dg ns k) (dg ms k) with hd | hd | hd
    ·have hb1:((dg ns k:Int) != (dg ms k:Int))=true:=by rw [bne_iff_ne]; omega
     go_wp2
     go_quiet (fail)
     go_wp2
     go_quiet (fail)
     go_wp2
     go_ret
     exact ⟨ahy (by rw [a2V (bfj h.wds Hn.out Hm.out hs1.out hd)]),_,by rw [World.drewN_drewN,World.drewN_drewN]⟩
    ·have hb1:((dg ns k:Int) != (dg ms k:Int))=false:=by rw [bne_eq_false_iff_eq]; omega
     have HS:Hid (Same ns ms k):=Lib.hid (bnH (by rw [Hn.out]; omega) (by rw [Hm.out]; omega) hs1.out hd)
     have Hd:=Lib.hid hd
     clear hd
     go_wp2
     go_quiet (fail)
     go_wp2
     go_roundw
     case rel=>exact ⟨(k:Int) - 1,q+nq,by omega,by omega,rfl,by rw [show ((k:Int) - 1+1).toNat=k by omega]; exact HS,rfl⟩
     case measure=>simp [intOf]
    ·have hb1:((dg ns k:Int) != (dg ms k:Int))=true:=by rw [bne_iff_ne]; omega
     go_wp2
     go_quiet (fail)
     go_wp2
     go_quiet (fail)
     go_wp2
     go_ret
     exact ⟨ahy (by rw [a4k (bfj h'.wds Hm.out Hn.out (Eq.symm hs1.out) hd)]),_,by rw [World.drewN_drewN,World.drewN_drewN]⟩
 ·have hb1:((n:Int) != (m:Int))=true:=by rw [bne_iff_ne]; omega
  rcases Nat.lt_or_ge n m with hlt | hge
  ·go_enter Tryz.func180,Tryz.ntmps180
   go_wp2
   go_ret
   exact ⟨ahy (by rw [a2V (a6D h.wds t' (by rw [Hn.out,Hm.out]; exact hlt))]),0,rfl⟩
  ·have hlt:m < n:=by omega
   go_enter Tryz.func180,Tryz.ntmps180
   go_wp2
   go_ret
   exact ⟨ahy (by rw [a4k (a6D h'.wds t (by rw [Hn.out,Hm.out]; exact hlt))]),0,rfl⟩
end Go.Proofs.YtbihljnjaondcaaGreatDoor
namespace Lw
open Go Go.RowKit
theorem bkE (n:Nat):madeCells #[Value.int .u32 0] n=(arr (List.replicate n 0)).toArray:=by
 apply Array.toList_inj.1
 rw [toList_madeCells_one]
 simp [arr]
theorem Blk.new (w:World) (t:TypeId) (ns:List Nat):Blk (w.alloc (.cells (arr ns).toArray t)) w.heap.size t ns:=⟨[],by rw [List.append_nil]; exact heap_alloc_new w _⟩
theorem Blk.awX {w:World} {g:Nat} {t:TypeId} {ns:List Nat} (h:Blk w g t ns) {i:Nat} (hi:i < ns.length) {z:Int} {v:Nat} (hz:z=(v:Int)) :
  Blk (w.setCell ⟨g,i,none⟩ (.int .u32 z)) g t (ns.set i v):=by subst hz; exact h.a1c v hi
theorem bn1 {p s:Nat} : p*(s % 4294967296)+4294967296*p*(s / 4294967296)=p*s:=by
 have h:=Nat.mod_add_div s 4294967296
 generalize s % 4294967296=r at *
 generalize s / 4294967296=q at *
 subst h
 rw [Nat.mul_add,Nat.mul_comm 4294967296 p,Nat.mul_assoc]
theorem ata {cs:List Nat} {k:Nat} (v:Nat) (h:k < cs.length):lo (cs.set k v) (k+1)=lo cs k+pw k*v:=by
 rw [acw,bdJ _ _ (Nat.le_refl _),am3 v h,if_pos rfl]
theorem baH {cs:List Nat} {k s c z t:Nat} (h:k < cs.length) (hv:lo cs k+pw k*c=z) (hs:s=c+t) :
  lo (cs.set k (s % 4294967296)) (k+1)+pw (k+1)*(s / 4294967296)=z+pw k*t:=by
 rw [ata _ h,afC,Nat.add_assoc,bn1,hs,Nat.mul_add]
 omega
theorem aAN {P:Program} (w:World) {ops:Array Oper} {rest:List Oper} {o:Oper} {a:Act} {Q:Exit→Act→World→Prop}
  (hg:o.guard=none) (l c:Operand) (t:TypeId) (hop:o.op=Op.makeSlice t l c)
  (e:TypeId) (h1:P.underlying t=some (.slice e)) (hinfo:(P.info? e).map (fun i=>(i.zero,i.size,i.bytes))=some (some (.int .u32 0),1,4))
  (kl kc:IntKind) (L C:Int) (n:Nat) (hl:a.eval l = .int kl L) (hc:a.eval c = .int kc C) (hL:L=(n:Int)) (hC:C=(n:Int)) (hn:n≤1099511627776)
  (hK : ∀ w',Blk w' w.heap.size e (List.replicate n 0)→Below w.heap.size w w'→w'.heap.size=w.heap.size+1→wpList P ops Q rest (a.put o.dst (.slice (some ⟨w.heap.size,0,none⟩) n n)) w') :
  wpList P ops Q (o :: rest) a w:=by
 obtain ⟨i,h2,h3,h4,h5⟩:=info_parts hinfo
 refine wpList_plain hg fun K hK' => ?_
 have hrun:=run_make (P:=P) w t e i _ h1 h2 h3 kl kc n n (by omega) (Int.le_refl _) (by rw [h5]; omega) (by omega)
 simp only [Int.toNat_natCast,h4,Nat.mul_one] at hrun
 rw [show (Value.int IntKind.u32 0).cells = #[Value.int .u32 0] from rfl,bkE] at hrun
 subst hL
 subst hC
 unfold Oper.wp
 simp [execOp,hop,hl,hc,hrun,Result.andThen]
 exact hK' _ _ (hK _ (Blk.new _ _ _) ((Below.refl _ _).alloc (Nat.le_refl _) _) (by simp))
end Lw
namespace Go.Proofs.YtbihljnjaondcaaGreatDoor
open Go Go.RowKit Lw
theorem ami:(Tryz.prog.info? 99).map (fun i=>(i.zero,i.size,i.bytes))=some (some (.int .u32 0),1,4):=by kernel_rfl
end Go.Proofs.YtbihljnjaondcaaGreatDoor
