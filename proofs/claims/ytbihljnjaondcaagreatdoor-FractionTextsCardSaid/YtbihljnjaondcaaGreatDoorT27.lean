/- Part of a proof, said shortly. -/
import Derived.Test.YtbihljnjaondcaaGreatDoorAlt
import Derived.Test.YtbihljnjaondcaaGreatDoorT9
import Derived.Test.YtbihljnjaondcaaGreatDoorT8
import Derived.Test.YtbihljnjaondcaaGreatDoorT6
import Derived.Test.YtbihljnjaondcaaGreatDoorT4
import Derived.Test.YtbihljnjaondcaaGreatDoorT3
import Derived.Test.YtbihljnjaondcaaGreatDoorT2
import Derived.Test.YtbihljnjaondcaaGreatDoorT1
import Derived.Test.YtbihljnjaondcaaGreatDoorT5
import Derived.Test.YtbihljnjaondcaaGreatDoorT7
import Derived.Test.YtbihljnjaondcaaGreatDoorT10
namespace Lw
open Go
def aan (l:List UInt8):Nat:=l.foldl (fun v b=>v*10+(b.toNat - 48)) 0
def acz (l:List UInt8):Prop := ∀ b∈l,48≤b.toNat∧b.toNat≤57
theorem biy:aan []=0:=rfl
theorem a7x (l:List UInt8) (b:UInt8):aan (l++[b])=aan l*10+(b.toNat - 48):=by simp [aan]
theorem biZ (l:List UInt8) (v:Nat):l.foldl (fun v b=>v*10+(b.toNat - 48)) v=v*10 ^ l.length+aan l:=by
 induction l generalizing v with
 | nil=>simp [aan]
 | cons b l ih =>
  have h:=ih (0*10+(b.toNat - 48))
  rw [List.foldl_cons,ih,List.length_cons,Nat.pow_succ]
  unfold aan
  rw [List.foldl_cons,h]
  grind
theorem bcu (l m:List UInt8):aan (l++m)=aan l*10 ^ m.length+aan m:=by
 unfold aan; rw [List.foldl_append,biZ]; rfl
theorem a4s {l:List UInt8} {k:Nat} (h:k < l.length):aan (l.take (k+1))=aan (l.take k)*10+(l[k].toNat - 48):=by
 rw [List.take_succ_eq_append_getElem h,a7x]
theorem a7w {l:List UInt8} (h:acz l) (k:Nat) (hk:k≤l.length):aan (l.take k) < 10 ^ k:=by
 induction k with
 | zero=>simp [aan]
 | succ k ih =>
  have h1:=ih (by omega)
  have h2:=h l[k] (List.getElem_mem _)
  rw [a4s (by omega),Nat.pow_succ]
  omega
theorem bh7 {l:List UInt8} (h:acz l) (k:Nat):acz (l.take k):=fun b hb=>h b (List.mem_of_mem_take hb)
theorem bh4 {l:List UInt8} (h:acz l) (k:Nat):acz (l.drop k):=fun b hb=>h b (List.mem_of_mem_drop hb)
theorem bhW {l:List UInt8} {k G U b:Nat} (hk:k < l.length) (hG:G=aan (l.take k)) (hU:U=10 ^ k) (hb:l[k].toNat=b+48):G*10+b=aan (l.take (k+1))∧U*10=10 ^ (k+1):=by
 rw [a4s hk,← hG,hb,Nat.pow_succ,← hU]
 omega
theorem bom {l:List Nat} (w:Wds l) (h:pw (l.length - 1)≤val l):Trm l:=by
 rcases Nat.eq_zero_or_pos l.length with h0 | h0
 ·rw [List.eq_nil_of_length_eq_zero h0]; exact a5l
 ·refine bbc fun e => ?_
  have h1:=acw l (l.length - 1)
  rw [show l.length - 1+1=l.length by omega,acm (Nat.le_refl _),e] at h1
  have:=ano w (l.length - 1)
  omega
theorem boo {cs ds:List Nat} {U G:Nat} (wd:Wds ds) (hl:ds.length=cs.length) (hU:0 < U) (hv:val ds=val cs*U+G) (t:Trm cs):Trm ds:=by
 rcases Nat.eq_zero_or_pos cs.length with h0 | h0
 ·rw [List.eq_nil_of_length_eq_zero (hl.trans h0)]; exact a5l
 ·refine bom wd ?_
  have h1:=a4W t (by intro e; rw [e] at h0; simp at h0)
  rw [hl,hv]
  have:val cs*1≤val cs*U:=Nat.mul_le_mul_left _ hU
  omega
theorem bon (l:List Nat) {x:Nat} (h:x≠0):Trm (l++[x]):=by
 intro y hy
 simp at hy
 omega
theorem boc {cs ds:List Nat} {k C C' R G U:Nat} (hk:k < ds.length) (hv:lo ds k+pw k*C=lo cs k*U+G) (_hd:dg ds k=dg cs k) (hD:C+dg cs k*U=C'*4294967296+R) :
  lo (ds.set k R) (k+1)+pw (k+1)*C'=lo cs (k+1)*U+G:=by
 rw [ata _ hk,acw,afC]
 have h:pw k*(C+dg cs k*U)=pw k*(C'*4294967296+R):=by rw [hD]
 grind
end Lw
namespace Go.Proofs.YtbihljnjaondcaaGreatDoor
open Go Go.RowKit Lw
set_option maxRecDepth 100000 in
set_option maxHeartbeats 3200000 in
theorem bg6 (Bt:Nat) (l:List UInt8) (v:Value) (n:Nat) (cs:List Nat) (w:World) (hown:w.ownsRow Bt 99 1 v n (arr cs)) (hcw:Wds cs) (hBt:Bt≤w.heap.size) (hn:n≤1048576) (hd:acz l) (hl:l.length≤9) :
  Calls Tryz.prog 220 #[v,.string ⟨l.toArray⟩] w fun e w' => ∃ v' n' ds,e = .returned v'∧w'.ownsRow Bt 99 1 v' n' (arr ds)∧Wds ds∧n'≤n+1∧val ds=val cs*10 ^ l.length+aan l∧(Trm cs→Trm ds)∧Below Bt w w':=by
 obtain ⟨S,hS⟩ : ∃ S:ByteArray,S=⟨l.toArray⟩:=⟨_,rfl⟩
 have hsz:S.size=l.length:=by rw [hS]; simp [ByteArray.size]
 have hat : ∀ k (h:k < S.size),(S[k]'h).toNat=(l[k]'(by omega)).toNat:=by intro k h; subst hS; rfl
 obtain ⟨A,c,rfl⟩ : ∃ A c,v = .slice A n c:=by
  rcases hown.2 with ⟨rfl,rfl⟩ | ⟨g,cap,cur,rfl,_⟩
  ·exact ⟨_,_,rfl⟩
  ·exact ⟨_,_,rfl⟩
 rw [← hS]
 have HAT:=Lib.hid hat
 have HD:=Lib.hid hd
 clear hS hat hd
 go_enter Tryz.func220,Tryz.ntmps220
 go_wp2_with fail
 go_loopw [5,6,13] (fun gv uv iv wr => ∃ k G U:Nat,k≤l.length∧iv = .int .i64 k∧gv = .int .u64 G∧uv = .int .u64 U∧G < U∧U≤1000000000∧Hid (G=aan (l.take k)∧U=10 ^ k)∧wr=w) (fun _ _ i _=>l.length - (intOf i).toNat)
 case atStart=>exact ⟨0,0,1,Nat.zero_le _,rfl,rfl,rfl,by omega,by omega,Lib.hid ⟨rfl,rfl⟩,rfl⟩
 case round =>
  obtain ⟨k,G,U,hk,rfl,rfl,rfl,hGU,hU,hv,rfl⟩:=hrel
  by_cases hkl:k < l.length
  ·have hks:k < S.size:=by omega
   have hb:=HD.out (l[k]'hkl) (List.getElem_mem _)
   obtain ⟨b,hbv⟩ : ∃ b,(l[k]'hkl).toNat=b+48:=⟨(l[k]'hkl).toNat - 48,by omega⟩
   have hb9:b≤9:=by omega
   have hsk:((S[k]'hks).toNat:Int)=(b:Int)+48:=by rw [HAT.out k hks,hbv]; omega
   have HST:=Lib.hid (bhW hkl hv.out.1 hv.out.2 hbv)
   have hU1:Hid (U*10≤1000000000):=Lib.hid (by rw [HST.out.2]; exact Nat.le_trans (Nat.pow_le_pow_right (by omega) (show k+1≤9 by omega)) (by decide))
   clear hb hbv
   go_wp2_with fail
   go_roundw
   case rel=>exact ⟨k+1,G*10+b,U*10,by omega,by go_num,by go_num,by go_num,by omega,hU1.out,Lib.hid HST.out,trivial⟩
   case measure=>simp [intOf]; omega
  ·obtain rfl:k=l.length:=by omega
   have HV:Hid (G=aan l∧U=10 ^ l.length):=Lib.hid (by have:=hv.out; rwa [List.take_length] at this)
   clear hv
   go_wp2_with fail
   go_loopw [8,30] (fun cv iv wr' => ∃ (k C:Nat) (ds:List Nat),k≤n∧C≤1000000000∧iv = .int .i64 k∧cv = .int .u64 C∧wr'.ownsRow Bt 99 1 (.slice A n c) n (arr ds)∧Wds ds∧Hid (ds.length=n) ∧
     Hid (∀ j,k≤j→dg ds j=dg cs j)∧Hid (lo ds k+pw k*C=lo cs k*U+G)∧Below Bt wr wr') (fun _ i _=>n - (intOf i).toNat)
   case atStart=>exact ⟨0,G,cs,Nat.zero_le _,by omega,rfl,rfl,hown,hcw,Lib.hid (by have:=hown.1; rwa [atC,Nat.mul_one] at this),Lib.hid (fun _ _=>rfl),Lib.hid (by simp [akf,aNP]),Below.refl _ _⟩
   case round =>
    obtain ⟨k,C,ds,hk,hC,rfl,rfl,hown2,hdw,hdl,hsame,hval,hbw⟩:=hrel
    have a7O:=hbw.size
    by_cases hkn:k < n
    ·obtain ⟨g,rfl,hgB⟩ : ∃ g,A=some ⟨g,0,none⟩∧Bt≤g:=by
      rcases hown2.2 with ⟨h1,h2⟩ | ⟨g,cap,cur,h1,h2,_⟩
      ·omega
      ·simp only [Value.slice.injEq] at h1; exact ⟨g,h1.1,h2⟩
     have hlt:=ahv hdw k
     have hcc:=hown2.cellAt k (by omega)
     rw [a7n ds k (by rw [hdl.out]; exact hkn)] at hcc
     have hfr:=hown2.frozenAt k
     obtain ⟨x,hx⟩ : ∃ x,x=dg ds k:=⟨_,rfl⟩
     rw [← hx] at hcc hlt
     obtain ⟨P,hP⟩ : ∃ P,P=x*U:=⟨_,rfl⟩
     have hPl:P≤4294967295*1000000000:=by rw [hP]; exact Nat.mul_le_mul (by omega) hU
     have hPi:(x:Int)*(U:Int)=(P:Int):=by rw [hP]; simp
     have hPj:(U:Int)*(x:Int)=(P:Int):=by rw [Int.mul_comm]; exact hPi
     obtain ⟨R,hR⟩ : ∃ R,R=(C+P) % 4294967296:=⟨_,rfl⟩
     obtain ⟨C',hC'⟩ : ∃ C',C'=(C+P) / 4294967296:=⟨_,rfl⟩
     have HST:=Lib.hid (boc (C':=C') (R:=R) (by rw [hdl.out]; exact hkn) hval.out (hsame.out k (Nat.le_refl _)) (by rw [← hsame.out k (Nat.le_refl _),← hx,← hP,hR,hC']; omega))
     have hRl:R < 4294967296:=by omega
     have hCl:C'≤1000000000:=by omega
     have hRi:((C:Int)+(P:Int)) % 4294967296=(R:Int):=by omega
     have hCi:((C:Int)+(P:Int)) / 4294967296=(C':Int):=by omega
     have hst:=hown2.stored k (.int .u32 (R:Int))
     rw [bbN] at hst
     have HSS:=Lib.hid hst
     have bpQ:P≤4294967295000000000:=by omega
     clear hx hP hR hC' hst hPl
     go_wp2_with fail
     go_roundw
     case rel =>
      refine ⟨k+1,C',ds.set k R,by omega,hCl,by go_num,by go_num,HSS.out.1,alc hdw _ hRl,Lib.hid (by rw [List.length_set]; exact hdl.out),Lib.hid ?_,HST,hbw.setCell hgB _⟩
      intro j hj
      rw [am3 _ (by rw [hdl.out]; exact hkn),if_neg (by omega)]
      exact hsame.out j (by omega)
     case measure=>simp [intOf]; omega
    ·obtain rfl:k=n:=by omega
     have hkc:cs.length=k:=by have:=hown.1; rwa [atC,Nat.mul_one] at this
     have hv2:=hval.out
     rw [acm (by rw [hdl.out]; exact Nat.le_refl _),acm (by omega)] at hv2
     have hU0:0 < U:=by omega
     by_cases h0:C=0
     ·subst h0
      rw [Nat.mul_zero,Nat.add_zero] at hv2
      have HF:Hid (val ds=val cs*10 ^ l.length+aan l∧(Trm cs→Trm ds)):=Lib.hid ⟨by rw [hv2,HV.out.1,← HV.out.2],boo hdw (by rw [hdl.out,hkc]) hU0 hv2⟩
      clear hv2 hkc
      go_wp2_with fail
      go_ret
      exact ⟨_,k,ds,rfl,hown2,hdw,by omega,HF.out.1,HF.out.2,hbw⟩
     ·have HF:Hid (val (ds++[C])=val cs*10 ^ l.length+aan l∧(Trm cs→Trm (ds++[C]))):=Lib.hid ⟨by rw [a8A,hdl.out,hv2,HV.out.1,← HV.out.2],fun _=>bon _ h0⟩
      have hC0:(0:Int) < (C:Int):=by omega
      have a0Z:=(Blk.new wr 99 [C]).rd (by rw [alb]; exact ⟨by omega,ak5⟩)
      have hcm:(C:Int) % 4294967296=(C:Int):=by omega
      clear hv2 hkc
      go_wp2_with (at_builtin; refine a7a _ rfl _ _ 22 rfl Bt 99 bsw ami _ k ds rfl (hown2.alloc _) _ _ [C] 1 1 rfl a0Z rfl (by omega) (by simp; omega) ?_; intro v' w4 hown4 hgrow4 hnil)
      have hgrow:(wr.alloc (.cells #[.int .u32 (C:Int)] 99)).grownBy w4 (Value.slice A k c).ownBlock:=hgrow4
      have hb5:=(hbw.alloc (by omega) (.cells #[.int .u32 (C:Int)] 99)).grown hgrow (by simp; omega) (fun k hk=>(hown2.lt k hk).1)
      clear hgrow4 hnil hgrow a0Z
      go_wp2_with fail
      go_ret
      exact ⟨_,k+1,ds++[C],rfl,hown4,a8F.2 ⟨hdw,by rw [alb]; exact ⟨by omega,ak5⟩⟩,by omega,HF.out.1,HF.out.2,hb5⟩
end Go.Proofs.YtbihljnjaondcaaGreatDoor
namespace Lw
open Go
theorem a6g (a:List UInt8) (i j:Nat):(ByteArray.mk a.toArray).extract i j=⟨((a.drop i).take (j - i)).toArray⟩:=by
 apply ByteArray.ext
 rw [ByteArray.data_extract]
 simp
theorem bn6 (l:List UInt8) (p m:Nat):l.take (p+m)=l.take p++(l.drop p).take m:=by rw [List.take_add]
end Lw
namespace Go.Proofs.YtbihljnjaondcaaGreatDoor
open Go Go.RowKit Lw
set_option maxRecDepth 100000 in
set_option maxHeartbeats 3200000 in
theorem bmM (l:List UInt8) (w:World) (hd:acz l) (hl:l.length≤65536) :
  Calls Tryz.prog 178 #[.string ⟨l.toArray⟩] w fun e w' => ∃ v n ds,e = .returned v∧w'.ownsRow w.heap.size 99 1 v n (arr ds)∧Wds ds∧n≤l.length∧val ds=aan l∧Trm ds∧Below w.heap.size w w':=by
 obtain ⟨i0,hi0,hz0,hz1,hz2⟩:=info_parts ami
 obtain ⟨S,hS⟩ : ∃ S:ByteArray,S=⟨l.toArray⟩:=⟨_,rfl⟩
 have hsz:S.size=l.length:=by rw [hS]; simp [ByteArray.size]
 rw [← hS]
 have HSS:=Lib.hid hS
 have HD:=Lib.hid hd
 clear hS hd
 go_enter Tryz.func178,Tryz.ntmps178
 go_wp2_with (at_make; refine wpList_make_own _ rfl _ _ _ rfl w.heap.size 99 i0 _ 1 bsw hi0 hz0 hz1 _ _ _ (l.length / 9+1) rfl rfl (by omega) (by rw [hz2]; omega) (by unfold maxLen; omega) (Nat.le_refl _) ?_; intro w1 hown hgrow)
 have hbel:Below w.heap.size w w1:=(Below.refl _ _).grown hgrow (Nat.le_refl _) (fun k hk=>by cases hk)
 clear hgrow
 go_loopw [0,3] (fun sv v wr => ∃ (p n:Nat) (T:ByteArray) (ds:List Nat),p≤l.length∧sv = .string T∧T.size=l.length - p∧Hid (T=⟨(l.drop p).toArray⟩)∧wr.ownsRow w.heap.size 99 1 v n (arr ds)∧Wds ds∧n≤p ∧
   Hid (val ds=aan (l.take p)∧Trm ds)∧Below w.heap.size w wr) (fun sv _ _=>match sv with | .string T=>T.size | _=>0)
 case atStart=>exact ⟨0,0,S,[],Nat.zero_le _,rfl,by omega,Lib.hid (by rw [HSS.out]; rfl),hown,ak5,Nat.le_refl _,Lib.hid ⟨rfl,a5l⟩,hbel⟩
 case round =>
  obtain ⟨p,n,T,ds,hp,rfl,hT,hTT,hown2,hdw,hnp,hv,hbw⟩:=hrel
  clear hown hbel
  have a7O:=hbw.size
  by_cases hpl:p < l.length
  ·obtain ⟨m,hm⟩ : ∃ m,m=(l.length - p - 1) % 9+1:=⟨_,rfl⟩
   have hm1:((l.length:Int) - (p:Int) - 1) % 9+1=(m:Int):=by omega
   have bjU:m≤l.length - p:=by omega
   have hm9:m≤9:=by omega
   obtain ⟨r,hr⟩ : ∃ r,r=l.length - p:=⟨_,rfl⟩
   rw [← hr] at hT bjU hm
   have hr0:0 < r:=by omega
   have hrl:r≤65536:=by omega
   have HX1:Hid (T.extract 0 ((r - 1) % 9+1)=⟨((l.drop p).take m).toArray⟩):=Lib.hid (by rw [← hm,hTT.out,a6g,Nat.sub_zero,List.drop_zero])
   have HX2:Hid (T.extract ((r - 1) % 9+1) r=⟨(l.drop (p+m)).toArray⟩):=Lib.hid (by rw [← hm,hTT.out,a6g,List.drop_drop,List.take_of_length_le (by rw [List.length_drop]; omega)])
   have HM:=Lib.hid hm
   have HR:=Lib.hid hr
   have hlm:((l.drop p).take m).length=m:=by rw [List.length_take,List.length_drop]; omega
   have HLM:=Lib.hid hlm
   clear hm hr hm1 hlm
   go_wp2_with fail
   rw [HX1.out]
   refine (bg6 w.heap.size ((l.drop p).take m) u3 n ds _ hown2 hdw a7O (by omega) (bh7 (bh4 HD.out p) m) (by rw [HLM.out]; exact hm9)).mono ?_
   rintro e w2 ⟨v',n',ds',rfl,hown3,bjP,hn3,hv3,ht3,hb3⟩
   have HV3:=Lib.hid hv3
   have HT3:=Lib.hid ht3
   have hbw3:=hbw.trans hb3
   clear hv3 ht3 hown2 hb3 hbw
   go_wp2_with fail
   have hsz2:(T.extract ((r - 1) % 9+1) r).size=l.length - (p+m):=by rw [HX2.out]; simp [ByteArray.size]
   have hpm:p+m≤l.length:=by have:=HR.out; omega
   have hm0:1≤m:=by have:=HM.out; omega
   go_roundw
   case rel =>
    refine ⟨p+m,n',_,ds',hpm,rfl,hsz2,HX2,hown3,bjP,by omega,Lib.hid ⟨?_,HT3.out hv.out.2⟩,hbw3⟩
    rw [HV3.out,hv.out.1,bn6,bcu,HLM.out]
   case measure =>
    show (T.extract ((r - 1) % 9+1) r).size < T.size
    have:=HR.out
    omega
  ·obtain rfl:p=l.length:=by omega
   have HV:Hid (val ds=aan l∧Trm ds):=Lib.hid (by have:=hv.out; rwa [List.take_length] at this)
   have hT0:T.size=0:=by omega
   clear hv hT
   go_wp2_with fail
   go_ret
   exact ⟨_,n,ds,rfl,hown2,hdw,hnp,HV.out.1,HV.out.2,hbw⟩
end Go.Proofs.YtbihljnjaondcaaGreatDoor
namespace Lw
open Go
def Plain (l:List UInt8):Prop:=0 < l.length∧acz l∧(1 < l.length → ∀ h:0 < l.length,(l[0]'h).toNat≠48)
theorem a4n (n:Nat):acz (Lib.decDigits n):=by
 induction n using Nat.strongRecOn with
 | ind n ih =>
  rw [Lib.decDigits]
  by_cases h:n < 10
  ·rw [dif_pos h]
   intro b hb
   rw [List.mem_singleton] at hb
   subst hb
   have:=a4m h
   omega
  ·rw [dif_neg h]
   intro b hb
   rw [List.mem_append,List.mem_singleton] at hb
   rcases hb with hb | rfl
   ·exact ih (n / 10) (by omega) b hb
   ·have:=a4m (d:=n % 10) (by omega)
    omega
theorem a1H (n:Nat):aan (Lib.decDigits n)=n:=by
 induction n using Nat.strongRecOn with
 | ind n ih =>
  rw [Lib.decDigits]
  by_cases h:n < 10
  ·rw [dif_pos h]
   have:=a4m h
   simp [aan]
   omega
  ·rw [dif_neg h,a7x,ih (n / 10) (by omega)]
   have:=a4m (d:=n % 10) (by omega)
   omega
theorem bhS (n:Nat) (h0:n≠0) : ∀ h:0 < (Lib.decDigits n).length,((Lib.decDigits n)[0]'h).toNat≠48:=by
 induction n using Nat.strongRecOn with
 | ind n ih =>
  by_cases h:n < 10
  ·intro hh
   have e:Lib.decDigits n=[UInt8.ofNat (48+n)]:=by rw [Lib.decDigits,dif_pos h]
   have:=a4m h
   simp only [e,List.getElem_cons_zero]
   omega
  ·intro hh
   have hp:=a4l (n / 10)
   have e:Lib.decDigits n=Lib.decDigits (n / 10)++[UInt8.ofNat (48+n % 10)]:=by rw [Lib.decDigits,dif_neg h]
   have h1:=ih (n / 10) (by omega) (by omega) hp
   simp only [e,List.getElem_append_left hp]
   exact h1
theorem a1S (n:Nat):Plain (Lib.decDigits n):=by
 refine ⟨a4l n,a4n n,fun h1 h => ?_⟩
 by_cases h0:n=0
 ·subst h0
  rw [Lib.decDigits_one (by omega)] at h1
  simp at h1
 ·exact bhS n h0 h
end Lw
namespace Go.Proofs.YtbihljnjaondcaaGreatDoor
open Go Go.RowKit Lw
set_option maxRecDepth 100000 in
set_option maxHeartbeats 3200000 in
theorem a7W (l:List UInt8) (w:World) (hp:Plain l) (hl:l.length≤65536) :
  Calls Tryz.prog 177 #[.string ⟨l.toArray⟩] w fun e w'=>e = .returned (.bool true)∧w=w':=by
 obtain ⟨S,hS⟩ : ∃ S:ByteArray,S=⟨l.toArray⟩:=⟨_,rfl⟩
 have hsz:S.size=l.length:=by rw [hS]; simp [ByteArray.size]
 have hat : ∀ k (h:k < S.size),(S[k]'h).toNat=(l[k]'(by omega)).toNat:=by intro k h; subst hS; rfl
 obtain ⟨h0,hd,hz⟩:=hp
 have hne:S.toList.isEmpty=false:=by
  rw [hS,ByteArray.toList_mk]
  cases l with
  | nil=>simp at h0
  | cons x l=>rfl
 have hs0:0 < S.size:=by omega
 have a7F:=hd (l[0]'h0) (List.getElem_mem _)
 rw [← hS]
 have HAT:=Lib.hid hat
 have HD:=Lib.hid hd
 obtain ⟨b,hb⟩ : ∃ b,b=(l[0]'h0).toNat:=⟨_,rfl⟩
 have hsb:((S[0]'hs0).toNat:Int)=(b:Int):=by rw [hat 0 hs0,hb]
 have HZ:Hid (1 < l.length→b≠48):=Lib.hid (fun h=>by rw [hb]; exact hz h h0)
 rw [← hb] at a7F
 clear hat hd hS hz hb
 go_enter Tryz.func177,Tryz.ntmps177
 by_cases h48:b=48
 ·have h1:l.length=1:=by rcases Nat.lt_or_ge 1 l.length with h | h; exact absurd h48 (HZ.out h); omega
  go_wp2_with fail
  go_loopw [18] (fun iv wr => ∃ i:Nat,i≤l.length∧iv = .int .i64 i∧w=wr) (fun iv _=>l.length - (intOf iv).toNat)
  case atStart=>exact ⟨0,Nat.zero_le _,rfl,rfl⟩
  case round =>
   obtain ⟨i,hi,rfl,rfl⟩:=hrel
   by_cases hil:i < l.length
   ·have hks:i < S.size:=by omega
    have hbb:=HD.out (l[i]'hil) (List.getElem_mem _)
    obtain ⟨d,hdd⟩ : ∃ d,d=(l[i]'hil).toNat:=⟨_,rfl⟩
    have hsk:((S[i]'hks).toNat:Int)=(d:Int):=by rw [HAT.out i hks,hdd]
    rw [← hdd] at hbb
    obtain ⟨hb1,hb2⟩:=hbb
    clear hdd
    go_wp2_with fail
    go_roundw
    case rel=>exact ⟨i+1,by omega,by go_num,trivial⟩
    case measure=>simp [intOf]; omega
   ·obtain rfl:i=l.length:=by omega
    go_wp2_with fail
    go_ret
    exact ⟨rfl,rfl⟩
 ·have hbi:((b:Int)==48)=false:=by rw [beq_eq_false_iff_ne]; omega
  go_wp2_with fail
  go_loopw [18] (fun iv wr => ∃ i:Nat,i≤l.length∧iv = .int .i64 i∧w=wr) (fun iv _=>l.length - (intOf iv).toNat)
  case atStart=>exact ⟨0,Nat.zero_le _,rfl,rfl⟩
  case round =>
   obtain ⟨i,hi,rfl,rfl⟩:=hrel
   by_cases hil:i < l.length
   ·have hks:i < S.size:=by omega
    have hbb:=HD.out (l[i]'hil) (List.getElem_mem _)
    obtain ⟨d,hdd⟩ : ∃ d,d=(l[i]'hil).toNat:=⟨_,rfl⟩
    have hsk:((S[i]'hks).toNat:Int)=(d:Int):=by rw [HAT.out i hks,hdd]
    rw [← hdd] at hbb
    obtain ⟨hb1,hb2⟩:=hbb
    clear hdd
    go_wp2_with fail
    go_roundw
    case rel=>exact ⟨i+1,by omega,by go_num,trivial⟩
    case measure=>simp [intOf]; omega
   ·obtain rfl:i=l.length:=by omega
    go_wp2_with fail
    go_ret
    exact ⟨rfl,rfl⟩
end Go.Proofs.YtbihljnjaondcaaGreatDoor
namespace Go.Proofs.YtbihljnjaondcaaGreatDoor
open Go Go.RowKit Lw
theorem beB (N:Nat) (w:World) (hl:(Lib.decDigits N).length≤65536) :
  Calls Tryz.prog 178 #[.string ⟨(Lib.decDigits N).toArray⟩] w fun e w' => ∃ A c,e = .returned (.slice A (Uy N).length c)∧(Uy N).length≤c∧Rd w' w'.heap.size A (Uy N)∧Below w.heap.size w w':=by
 refine (bmM _ w (a4n N) hl).mono ?_
 rintro e w' ⟨v,n,ds,rfl,hown,hw,hn,hv,ht,hb⟩
 rw [a1H] at hv
 have hds:ds=Uy N:=by rw [← hv]; exact (a4p hw ht).symm
 subst hds
 have hle:=hown.1
 rw [atC,Nat.mul_one] at hle
 rcases hown.2 with ⟨rfl,h0⟩ | ⟨g,cap,cur,hv',_,_,hnc,_⟩
 ·have e0:Uy N=[]:=List.eq_nil_of_length_eq_zero (by omega)
  rw [e0]
  exact ⟨none,0,rfl,Nat.le_refl _,Rd.nil_ _ _ _,hb⟩
 ·obtain ⟨A,c,rfl,hr,hl2⟩:=baC hown hw
  simp only [Value.slice.injEq] at hv'
  exact ⟨A,c,by rw [hle],by omega,hr,hb⟩
set_option maxRecDepth 100000 in
set_option maxHeartbeats 3200000 in
theorem blA (z:Int) (w:World) (hz:sg z=false) (hl:(Lib.decDigits z.natAbs).length≤60000) :
  Calls Tryz.prog 110 #[.string ⟨(Lib.decDigits z.natAbs).toArray⟩] w (a5S w z):=by
 have hp:=a7W _ w (a1S z.natAbs) (by omega)
 have hp':=fun W=>a7W _ W (a1S z.natAbs) (by omega)
 have hr':=fun W=>beB z.natAbs W (by omega)
 obtain ⟨l,hll⟩ : ∃ l,l=Lib.decDigits z.natAbs:=⟨_,rfl⟩
 have hdd:acz l:=by rw [hll]; exact a4n _
 have h0:0 < l.length:=by rw [hll]; exact a4l _
 rw [← hll] at hl hp' hr' ⊢
 obtain ⟨S,hS⟩ : ∃ S:ByteArray,S=⟨l.toArray⟩:=⟨_,rfl⟩
 have hsz:S.size=l.length:=by rw [hS]; simp [ByteArray.size]
 have hs0:0 < S.size:=by omega
 have a7F:=hdd (l[0]'h0) (List.getElem_mem _)
 obtain ⟨b,hb⟩ : ∃ b,b=(l[0]'h0).toNat:=⟨_,rfl⟩
 have hsb:((S[0]'hs0).toNat:Int)=(b:Int):=by subst hS; rw [hb]; rfl
 rw [← hb] at a7F
 rw [← hS] at hp' hr' ⊢
 have a7E:((b:Int)==45)=false:=by rw [beq_eq_false_iff_ne]; omega
 have HP:=Lib.hid hp'
 have HR:=Lib.hid hr'
 have HZ:=Lib.hid hz
 obtain ⟨hb1,hb2⟩:=a7F
 clear hp hp' hr' hll hdd hS hb hz
 go_enter btm,btn
 go_wp2_with fail
 refine (HP.out _).mono ?_
 rintro e w1 ⟨rfl,rfl⟩
 go_wp2_with fail
 refine (HR.out _).mono ?_
 rintro e w1 ⟨A2,c2,rfl,hc2,hr2,hb4⟩
 have U2:=(Two.new w 39 (.bool false) (.slice none 0 0)).next hb4
 go_wp2_with fail
 refine (atd false A2 z.natAbs _ c2 _ z _ hr2 (Nat.le_refl _) rfl hc2 (by have:=a2A z; rwa [HZ.out,aiz] at this)).mono ?_
 rintro e w4 ⟨A4,c4,rfl,hc4,hr4,hb5⟩
 have V2:=U2.next hb5
 obtain ⟨d0,d1,g0,g1⟩:=V2.facts
 have hb3:=(Below.refl w.heap.size w).alloc (Nat.le_refl _) (.cells #[.bool false,.slice none 0 0] 39)
 go_wp2_with fail
 refine bodyPost_ret (v := .tuple #[.agg #[.bool (sg z),.slice A4 (mg z).length c4],.nilIface]) (by simp [results,Tryz.results110,go_sem,d0,d1]) rfl ?_
 obtain ⟨A5,c5,he,h1,h2,h3⟩:=alf V2 hr4 hb5.size hc4 (aaR (aaR hb3 hb4 (Nat.le_refl _)) hb5 (Nat.le_refl _)) (by omega)
 injection he with he
 injection he with he
 simp at he
 obtain ⟨rfl,rfl⟩:=he
 exact ⟨A4,c4,rfl,h1,h2,h3⟩
set_option maxRecDepth 100000 in
set_option maxHeartbeats 3200000 in
theorem blx (z:Int) (w:World) (hz:sg z=true) (hl:(Lib.decDigits z.natAbs).length≤60000) :
  Calls Tryz.prog 110 #[.string ⟨(45 :: Lib.decDigits z.natAbs).toArray⟩] w (a5S w z):=by
 have hp':=fun W=>a7W _ W (a1S z.natAbs) (by omega)
 have hr':=fun W=>beB z.natAbs W (by omega)
 have a9T:((Lib.decDigits z.natAbs)==[48])=false:=by
  rw [beq_eq_false_iff_ne]
  intro e
  have h1:=a1H z.natAbs
  rw [e] at h1
  have h2:=(a5h hz).2
  have h3:aan [48]=0:=rfl
  omega
 obtain ⟨l,hll⟩ : ∃ l,l=Lib.decDigits z.natAbs:=⟨_,rfl⟩
 have h0:0 < l.length:=by rw [hll]; exact a4l _
 rw [← hll] at hl hp' hr' a9T ⊢
 obtain ⟨D,hD⟩ : ∃ D:ByteArray,D=⟨l.toArray⟩:=⟨_,rfl⟩
 obtain ⟨S,hS⟩ : ∃ S:ByteArray,S=⟨(45 :: l).toArray⟩:=⟨_,rfl⟩
 obtain ⟨M,hM⟩ : ∃ M,M=l.length+1:=⟨_,rfl⟩
 have hsz:S.size=M:=by rw [hS,hM]; simp [ByteArray.size]
 have hs0:0 < S.size:=by omega
 have hM1:1≤M:=by omega
 have hM2:M≤65536:=by omega
 obtain ⟨b,hb⟩ : ∃ b:Nat,b=45:=⟨_,rfl⟩
 have hsb:((S[0]'hs0).toNat:Int)=(b:Int):=by subst hS; rw [hb]; rfl
 have a7E:((b:Int)==45)=true:=by rw [hb]; rfl
 have hx1:S.extract 1 M=D:=by rw [hS,hD,hM,a6g]; simp
 have bjy:(D.toList==[48])=false:=by rw [hD,ByteArray.toList_mk]; exact a9T
 rw [← hS]
 rw [← hD] at hp' hr'
 have HP:=Lib.hid hp'
 have HR:=Lib.hid hr'
 have HZ:=Lib.hid hz
 clear hp' hr' hll hD hS hz a9T hb hM hl h0
 go_enter btm,btn
 go_wp2_with fail
 refine (HP.out _).mono ?_
 rintro e w1 ⟨rfl,rfl⟩
 go_wp2_with fail
 refine (HR.out _).mono ?_
 rintro e w1 ⟨A2,c2,rfl,hc2,hr2,hb4⟩
 have U2:=(Two.new w 39 (.bool false) (.slice none 0 0)).next hb4
 go_wp2_with fail
 refine (atd true A2 z.natAbs _ c2 _ z _ hr2 (Nat.le_refl _) rfl hc2 (by have:=a2A z; rwa [HZ.out,aiz] at this)).mono ?_
 rintro e w4 ⟨A4,c4,rfl,hc4,hr4,hb5⟩
 have V2:=U2.next hb5
 obtain ⟨d0,d1,g0,g1⟩:=V2.facts
 have hb3:=(Below.refl w.heap.size w).alloc (Nat.le_refl _) (.cells #[.bool false,.slice none 0 0] 39)
 go_wp2_with fail
 refine bodyPost_ret (v := .tuple #[.agg #[.bool (sg z),.slice A4 (mg z).length c4],.nilIface]) (by simp [results,Tryz.results110,go_sem,d0,d1]) rfl ?_
 obtain ⟨A5,c5,he,h1,h2,h3⟩:=alf V2 hr4 hb5.size hc4 (aaR (aaR hb3 hb4 (Nat.le_refl _)) hb5 (Nat.le_refl _)) (by omega)
 injection he with he
 injection he with he
 simp at he
 obtain ⟨rfl,rfl⟩:=he
 exact ⟨A4,c4,rfl,h1,h2,h3⟩
theorem parse_any (z:Int) (w:World) (hl:(Lib.decDigits z.natAbs).length≤60000) :
  Calls Tryz.prog 110 #[.string ⟨(Lib.itoa z).toArray⟩] w (a5S w z):=by
 cases h:sg z
 ·rw [anm h]; exact blA z w h hl
 ·rw [itoa_neg h]; exact blx z w h hl
end Go.Proofs.YtbihljnjaondcaaGreatDoor
namespace Lw
open Go
theorem bck {b:UInt8} (h1:48≤b.toNat):UInt8.ofNat (48+(b.toNat - 48))=b:=by
 rw [show 48+(b.toNat - 48)=b.toNat by omega]; exact UInt8.ofNat_toNat
theorem bcg:Lib.decDigits 0=[48]:=by rw [Lib.decDigits,dif_pos (by omega)]; rfl
theorem bhU (k:Nat) : ∀ l:List UInt8,l.length≤k→Plain l→Lib.decDigits (aan l)=l:=by
 induction k with
 | zero=>intro l hl h; exact absurd h.1 (by omega)
 | succ k ih =>
  intro l hl h
  obtain ⟨h0,hd,hz⟩:=h
  obtain ⟨m,b,rfl⟩ : ∃ m b,l=m++[b]:=⟨l.dropLast,l.getLast (by intro e; rw [e] at h0; simp at h0),(List.dropLast_concat_getLast (by intro e; rw [e] at h0; simp at h0)).symm⟩
  have hb:=hd b (by simp)
  rw [a7x]
  rcases Nat.eq_zero_or_pos m.length with hm | hm
  ·obtain rfl:=List.eq_nil_of_length_eq_zero hm
   rw [biy,Nat.zero_mul,Nat.zero_add,Lib.decDigits,dif_pos (by omega),bck hb.1]; rfl
  ·have hf:=hz (by simp; omega) (by simp)
   rw [List.getElem_append_left hm] at hf
   have hp:Plain m:=⟨hm,fun x hx=>hd x (by simp [hx]),fun _ _=>hf⟩
   have e:=ih m (by simp at hl; omega) hp
   have hv:aan m≠0:=by
    intro e0
    rw [e0,bcg] at e
    subst e
    exact hf rfl
   rw [Lib.decDigits,dif_neg (by omega),show (aan m*10+(b.toNat - 48)) / 10=aan m by omega,show (aan m*10+(b.toNat - 48)) % 10=b.toNat - 48 by omega,e,bck hb.1]
def Fits (neg:Bool) (d:List UInt8):Prop:=Plain d∧¬(neg=true∧d=[48])
theorem a9u {l:List UInt8} (h:Plain l):Lib.decDigits (aan l)=l:=bhU l.length l (Nat.le_refl _) h
theorem a9F {d:List UInt8} (h:Fits false d):d=Lib.itoa (aan d:Int):=by
 rw [anm (by unfold sg; simp),Int.natAbs_natCast,List.nil_append,a9u h.1]
theorem bcS {d:List UInt8} (h:Fits true d):45 :: d=Lib.itoa (-(aan d:Int)):=by
 have h0:aan d≠0:=by
  intro e
  have:=a9u h.1
  rw [e,bcg] at this
  exact h.2 ⟨rfl,this.symm⟩
 rw [itoa_neg (by unfold sg; simp; omega),Int.natAbs_neg,Int.natAbs_natCast,a9u h.1]; rfl
theorem bax {l:List UInt8} (h:acz l) (h0:0 < l.length):(l[0]'h0).toNat≠45:=by
 have:=h _ (List.getElem_mem h0)
 omega
theorem blf {l:List UInt8} (h45 : ∀ h:0 < l.length,(l[0]'h).toNat≠45) (h:¬Fits false l) : ∀ z,l≠Lib.itoa z:=by
 intro z e
 cases hz:sg z
 ·rw [anm hz,List.nil_append] at e
  exact h ⟨by rw [e]; exact a1S _,fun hh=>by cases hh.1⟩
 ·rw [itoa_neg hz] at e
  subst e
  exact h45 (by simp) rfl
theorem bld {d:List UInt8} (h:¬Fits true d) : ∀ z,45 :: d≠Lib.itoa z:=by
 intro z e
 cases hz:sg z
 ·rw [anm hz,List.nil_append] at e
  have hp:=a1S z.natAbs
  rw [← e] at hp
  exact bax hp.2.1 hp.1 rfl
 ·rw [itoa_neg hz,List.singleton_append] at e
  injection e with _ e
  refine h ⟨by rw [e]; exact a1S _,fun hh => ?_⟩
  have h1:=a1H z.natAbs
  rw [← e,hh.2] at h1
  have h2:=(a5h hz).2
  have h3:aan [48]=0:=rfl
  omega
theorem bcH {neg:Bool} {d:List UInt8} (hd:acz d) (h0:0 < d.length) (h:(d[0]'h0).toNat=48→d.length=1∧neg=false):Fits neg d:=by
 refine ⟨⟨h0,hd,fun h1 _ e=>by have:=(h e).1; omega⟩,fun hh => ?_⟩
 obtain ⟨rfl,rfl⟩:=hh
 have:=(h rfl).2
 cases this
theorem bcR {neg:Bool} {d:List UInt8} (h:Fits neg d) (h0:0 < d.length) (e:(d[0]'h0).toNat=48):d.length=1∧neg=false:=by
 obtain ⟨⟨_,hd,hz⟩,hn⟩:=h
 have h1:d.length=1:=by
  rcases Nat.lt_or_ge 1 d.length with h1 | h1
  ·exact absurd e (hz h1 h0)
  ·omega
 refine ⟨h1,?_⟩
 cases neg
 ·rfl
 ·refine absurd ⟨rfl,?_⟩ hn
  obtain ⟨b,rfl⟩:=List.length_eq_one_iff.1 h1
  have e':b.toNat=48:=e
  have:b=48:=UInt8.toNat_inj.1 e'
  rw [this]
end Lw
namespace Lw
open Go
theorem a4o {l:List UInt8} {i:Nat} (h:i < l.length) (hd:acz (l.take i)) (hb:48≤(l[i]'h).toNat∧(l[i]'h).toNat≤57):acz (l.take (i+1)):=by
 rw [List.take_succ_eq_append_getElem h]
 intro b hb'
 rw [List.mem_append,List.mem_singleton] at hb'
 rcases hb' with hb' | rfl
 ·exact hd b hb'
 ·exact hb
end Lw
namespace Go.Proofs.YtbihljnjaondcaaGreatDoor
open Go Go.RowKit Lw
set_option maxRecDepth 100000 in
set_option maxHeartbeats 3200000 in
theorem bei (l:List UInt8) (w:World) (hp:¬Plain l) (hl:l.length≤65536) :
  Calls Tryz.prog 177 #[.string ⟨l.toArray⟩] w fun e w'=>e = .returned (.bool false)∧w=w':=by
 obtain ⟨S,hS⟩ : ∃ S:ByteArray,S=⟨l.toArray⟩:=⟨_,rfl⟩
 have hsz:S.size=l.length:=by rw [hS]; simp [ByteArray.size]
 have hat : ∀ k (h:k < S.size),(S[k]'h).toNat=(l[k]'(by omega)).toNat:=by intro k h; subst hS; rfl
 have HPL:=Lib.hid hp
 have HAT:=Lib.hid hat
 clear hp hat
 rcases Nat.eq_zero_or_pos l.length with h0 | h0
 ·have hne:S.toList.isEmpty=true:=by
   rw [hS,ByteArray.toList_mk]
   cases l with
   | nil=>rfl
   | cons x l=>simp at h0
  rw [← hS]
  clear hS
  go_enter Tryz.func177,Tryz.ntmps177
  go_wp2_with fail
  go_ret
  exact ⟨rfl,rfl⟩
 have hne:S.toList.isEmpty=false:=by
  rw [hS,ByteArray.toList_mk]
  cases l with
  | nil=>simp at h0
  | cons x l=>rfl
 have hs0:0 < S.size:=by omega
 rw [← hS]
 obtain ⟨b,hb⟩ : ∃ b,b=(l[0]'h0).toNat:=⟨_,rfl⟩
 have hsb:((S[0]'hs0).toNat:Int)=(b:Int):=by rw [HAT.out 0 hs0,hb]
 have HB:=Lib.hid hb
 clear hb hS
 go_enter Tryz.func177,Tryz.ntmps177
 by_cases h48:b=48
 ·by_cases h1:1 < l.length
  ·go_wp2_with fail
   go_ret
   exact ⟨rfl,rfl⟩
  have h1':l.length=1:=by omega
  go_wp2_with fail
  go_loopw [18] (fun iv wr => ∃ i:Nat,i≤l.length∧iv = .int .i64 i∧Hid (acz (l.take i))∧w=wr) (fun iv _=>l.length - (intOf iv).toNat)
  case atStart=>exact ⟨0,Nat.zero_le _,rfl,Lib.hid (by intro x hx; simp at hx),rfl⟩
  case round =>
   obtain ⟨i,hi,rfl,hdg,rfl⟩:=hrel
   by_cases hil:i < l.length
   ·have hks:i < S.size:=by omega
    obtain ⟨d,hdd⟩ : ∃ d,d=(l[i]'hil).toNat:=⟨_,rfl⟩
    have hsk:((S[i]'hks).toNat:Int)=(d:Int):=by rw [HAT.out i hks,hdd]
    have HNX:Hid (48≤d∧d≤57→acz (l.take (i+1))):=Lib.hid (fun hh=>a4o hil hdg.out (by rw [← hdd]; exact hh))
    clear hdd
    by_cases hd1:d < 48
    ·go_wp2_with fail
     go_ret
     exact ⟨rfl,rfl⟩
    ·by_cases hd2:57 < d
     ·go_wp2_with fail
      go_ret
      exact ⟨rfl,rfl⟩
     ·go_wp2_with fail
      go_roundw
      case rel=>exact ⟨i+1,by omega,by go_num,Lib.hid (HNX.out ⟨by omega,by omega⟩),trivial⟩
      case measure=>simp [intOf]; omega
   ·obtain rfl:i=l.length:=by omega
    exfalso
    refine HPL.out ⟨h0,?_,?_⟩
    ·have:=hdg.out; rwa [List.take_length] at this
    ·intro h1 hh; rw [← HB.out]; omega
 ·have hbi:((b:Int)==48)=false:=by rw [beq_eq_false_iff_ne]; omega
  have H48:=Lib.hid h48
  go_wp2_with fail
  go_loopw [18] (fun iv wr => ∃ i:Nat,i≤l.length∧iv = .int .i64 i∧Hid (acz (l.take i))∧w=wr) (fun iv _=>l.length - (intOf iv).toNat)
  case atStart=>exact ⟨0,Nat.zero_le _,rfl,Lib.hid (by intro x hx; simp at hx),rfl⟩
  case round =>
   obtain ⟨i,hi,rfl,hdg,rfl⟩:=hrel
   by_cases hil:i < l.length
   ·have hks:i < S.size:=by omega
    obtain ⟨d,hdd⟩ : ∃ d,d=(l[i]'hil).toNat:=⟨_,rfl⟩
    have hsk:((S[i]'hks).toNat:Int)=(d:Int):=by rw [HAT.out i hks,hdd]
    have HNX:Hid (48≤d∧d≤57→acz (l.take (i+1))):=Lib.hid (fun hh=>a4o hil hdg.out (by rw [← hdd]; exact hh))
    clear hdd
    by_cases hd1:d < 48
    ·go_wp2_with fail
     go_ret
     exact ⟨rfl,rfl⟩
    ·by_cases hd2:57 < d
     ·go_wp2_with fail
      go_ret
      exact ⟨rfl,rfl⟩
     ·go_wp2_with fail
      go_roundw
      case rel=>exact ⟨i+1,by omega,by go_num,Lib.hid (HNX.out ⟨by omega,by omega⟩),trivial⟩
      case measure=>simp [intOf]; omega
   ·obtain rfl:i=l.length:=by omega
    exfalso
    refine HPL.out ⟨h0,?_,?_⟩
    ·have:=hdg.out; rwa [List.take_length] at this
    ·intro h1 hh; rw [← HB.out]; exact H48.out
def a9i (w:World) (z:Int) (e:Ending) (w':World):Prop:=e = .returned (.tuple #[.agg #[.bool false,.slice none 0 0],.iface 74 (.int .i64 z)])∧Below w.heap.size w w'
set_option maxRecDepth 100000 in
set_option maxHeartbeats 3200000 in
theorem blz (l:List UInt8) (w:World) (h45 : ∀ h:0 < l.length,(l[0]'h).toNat≠45) (hg:¬Fits false l) (hl:l.length≤65536) :
  Calls Tryz.prog 110 #[.string ⟨l.toArray⟩] w (a9i w 2):=by
 have hp':=fun W=>bei l W (fun h=>hg ⟨h,fun hh=>by cases hh.1⟩) hl
 obtain ⟨S,hS⟩ : ∃ S:ByteArray,S=⟨l.toArray⟩:=⟨_,rfl⟩
 have hsz:S.size=l.length:=by rw [hS]; simp [ByteArray.size]
 have hat : ∀ k (h:k < S.size),(S[k]'h).toNat=(l[k]'(by omega)).toNat:=by intro k h; subst hS; rfl
 rw [← hS] at hp' ⊢
 have HP:=Lib.hid hp'
 have HAT:=Lib.hid hat
 have H45:=Lib.hid h45
 clear hp' hat hg hS h45
 rcases Nat.eq_zero_or_pos l.length with h0 | h0
 ·go_enter btm,btn
  go_wp2_with fail
  refine (HP.out _).mono ?_
  rintro e w1 ⟨rfl,rfl⟩
  obtain ⟨d0,d1,g0,g1⟩:=(Two.new w 39 (.bool false) (.slice none 0 0)).facts
  go_wp2_with fail
  refine bodyPost_ret (v := .tuple #[.agg #[.bool false,.slice none 0 0],.iface 74 (.int .i64 2)]) (by simp [results,Tryz.results110,go_sem,d0,d1]) rfl ?_
  exact ⟨rfl,(Below.refl w.heap.size w).alloc (Nat.le_refl _) _⟩
 ·have hs0:0 < S.size:=by omega
  obtain ⟨b,hb⟩ : ∃ b,b=(l[0]'h0).toNat:=⟨_,rfl⟩
  have hsb:((S[0]'hs0).toNat:Int)=(b:Int):=by rw [HAT.out 0 hs0,hb]
  have hb2:((b:Int)==45)=false:=by rw [beq_eq_false_iff_ne]; have:=H45.out h0; omega
  clear hb
  go_enter btm,btn
  go_wp2_with fail
  refine (HP.out _).mono ?_
  rintro e w1 ⟨rfl,rfl⟩
  obtain ⟨d0,d1,g0,g1⟩:=(Two.new w 39 (.bool false) (.slice none 0 0)).facts
  go_wp2_with fail
  refine bodyPost_ret (v := .tuple #[.agg #[.bool false,.slice none 0 0],.iface 74 (.int .i64 2)]) (by simp [results,Tryz.results110,go_sem,d0,d1]) rfl ?_
  exact ⟨rfl,(Below.refl w.heap.size w).alloc (Nat.le_refl _) _⟩
set_option maxRecDepth 100000 in
set_option maxHeartbeats 3200000 in
theorem bly (l:List UInt8) (w:World) (hg:¬Fits true l) (hl:l.length+1≤65536) :
  Calls Tryz.prog 110 #[.string ⟨(45 :: l).toArray⟩] w (a9i w 2):=by
 obtain ⟨D,hD⟩ : ∃ D:ByteArray,D=⟨l.toArray⟩:=⟨_,rfl⟩
 obtain ⟨S,hS⟩ : ∃ S:ByteArray,S=⟨(45 :: l).toArray⟩:=⟨_,rfl⟩
 obtain ⟨M,hM⟩ : ∃ M,M=l.length+1:=⟨_,rfl⟩
 have hsz:S.size=M:=by rw [hS,hM]; simp [ByteArray.size]
 have hs0:0 < S.size:=by omega
 have hM1:1≤M:=by omega
 have hM2:M≤65536:=by omega
 obtain ⟨b,hb⟩ : ∃ b:Nat,b=45:=⟨_,rfl⟩
 have hsb:((S[0]'hs0).toNat:Int)=(b:Int):=by subst hS; rw [hb]; rfl
 have a7E:((b:Int)==45)=true:=by rw [hb]; rfl
 have hx1:S.extract 1 M=D:=by rw [hS,hD,hM,a6g]; simp
 rw [← hS]
 by_cases hp:Plain l
 ·have h48:l=[48]:=by
   rcases Classical.em (l=[48]) with h | h
   ·exact h
   ·exact absurd ⟨hp,fun hh=>h hh.2⟩ hg
  have hp':=fun W=>a7W l W hp (by omega)
  have bjy:(D.toList==[48])=true:=by rw [hD,ByteArray.toList_mk,h48]; rfl
  rw [← hD] at hp'
  have HP:=Lib.hid hp'
  clear hp' hD hS h48 hb hM hl hp hg
  go_enter btm,btn
  go_wp2_with fail
  refine (HP.out _).mono ?_
  rintro e w1 ⟨rfl,rfl⟩
  obtain ⟨d0,d1,g0,g1⟩:=(Two.new w 39 (.bool false) (.slice none 0 0)).facts
  go_wp2_with fail
  refine bodyPost_ret (v := .tuple #[.agg #[.bool false,.slice none 0 0],.iface 74 (.int .i64 2)]) (by simp [results,Tryz.results110,go_sem,d0,d1]) rfl ?_
  exact ⟨rfl,(Below.refl w.heap.size w).alloc (Nat.le_refl _) _⟩
 ·have hp':=fun W=>bei l W hp (by omega)
  rw [← hD] at hp'
  have HP:=Lib.hid hp'
  clear hp' hD hS hb hM hl hp hg
  go_enter btm,btn
  go_wp2_with fail
  refine (HP.out _).mono ?_
  rintro e w1 ⟨rfl,rfl⟩
  obtain ⟨d0,d1,g0,g1⟩:=(Two.new w 39 (.bool false) (.slice none 0 0)).facts
  go_wp2_with fail
  refine bodyPost_ret (v := .tuple #[.agg #[.bool false,.slice none 0 0],.iface 74 (.int .i64 2)]) (by simp [results,Tryz.results110,go_sem,d0,d1]) rfl ?_
  exact ⟨rfl,(Below.refl w.heap.size w).alloc (Nat.le_refl _) _⟩
theorem bee (l:List UInt8) (w:World) (hl:l.length≤400) :
  Calls Tryz.prog 110 #[.string ⟨l.toArray⟩] w fun e w'=>(∃ z,l=Lib.itoa z∧a5S w z e w')∨((∀ z,l≠Lib.itoa z)∧a9i w 2 e w'):=by
 rcases Classical.em (∃ z,l=Lib.itoa z) with ⟨z,h⟩ | h
 ·subst h
  refine (parse_any z w ?_).mono fun e w' hh => .inl ⟨z,rfl,hh⟩
  cases hz:sg z
  ·rw [anm hz,List.nil_append] at hl; omega
  ·rw [itoa_neg hz,List.singleton_append,List.length_cons] at hl; omega
 ·have h' : ∀ z,l≠Lib.itoa z:=fun z e=>h ⟨z,e⟩
  by_cases h45 : ∀ h:0 < l.length,(l[0]'h).toNat≠45
  ·exact (blz l w h45 (fun hg=>h' _ (a9F hg)) (by omega)).mono fun e w' hh => .inr ⟨h',hh⟩
  ·obtain ⟨d,rfl⟩ : ∃ d,l=45 :: d:=by
    cases l with
    | nil=>exact absurd (fun h=>by simp at h) h45
    | cons x d =>
     refine ⟨d,?_⟩
     rcases Classical.em (x.toNat=45) with hx | hx
     ·rw [show x=45 from UInt8.toNat_inj.1 hx]
     ·exact absurd (fun _=>hx) h45
   exact (bly d w (fun hg=>h' _ (bcS hg)) (by clear h45; have h9:=hl; rw [List.length_cons] at h9; omega)).mono fun e w' hh => .inr ⟨h',hh⟩
end Go.Proofs.YtbihljnjaondcaaGreatDoor
