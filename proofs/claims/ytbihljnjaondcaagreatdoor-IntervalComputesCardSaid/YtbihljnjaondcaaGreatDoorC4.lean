/- Part of a proof, said shortly. -/
import Derived.Deep.LoopGhost
import Derived.Laws.IdiomStrings
import Derived.Lib.BufferRead
import Derived.Deep.RegionWith
import Derived.Deep.DeepCutAuto
import Derived.Test.YtbihljnjaondcaaGreatDoorAlz
import Derived.Test.YtbihljnjaondcaaGreatDoorC3
import Derived.Test.YtbihljnjaondcaaGreatDoorC2
import Derived.Test.YtbihljnjaondcaaGreatDoorC1
namespace Lw
open Go Go.RowKit
def DF:Nat→Nat→List UInt8
 | 0,_=>[]
 | k+1,g=>DF k (g / 10)++[UInt8.ofNat (48+g % 10)]
theorem axY (k q g:Nat) (hq:0 < q) (hg:g < 10 ^ k):Lib.decDigits (q*10 ^ k+g)=Lib.decDigits q++DF k g:=by
 induction k generalizing g with
 | zero =>
  have:g=0:=by simpa using hg
  subst this
  simp [DF]
 | succ k ih =>
  have hp:q*10 ^ (k+1)=q*10 ^ k*10:=by rw [Nat.pow_succ,Nat.mul_assoc]
  have h1:1≤q*10 ^ k:=Nat.mul_pos hq (Nat.pow_pos (by omega))
  rw [Lib.decDigits,dif_neg (by rw [hp]; omega),show (q*10 ^ (k+1)+g) / 10=q*10 ^ k+g / 10 by rw [hp]; omega,show (q*10 ^ (k+1)+g) % 10=g % 10 by rw [hp]; omega,
   ih (g / 10) (by rw [Nat.pow_succ] at hg; omega),DF,List.append_assoc]
def tl (gs:List Nat):List UInt8:=(gs.reverse.map (DF 9)).flatten
theorem asj:tl []=[]:=rfl
theorem aFV (gs:List Nat) (g:Nat):tl (gs++[g])=DF 9 g++tl gs:=by simp [tl]
theorem aFT (gs:List Nat) (g:Nat):tl (g :: gs)=tl gs++DF 9 g:=by simp [tl]
theorem byteCells_snoc (l:List UInt8) (b:UInt8):Lib.byteCells (l++[b])=Lib.byteCells l++[.int .u8 (b.toNat:Int)]:=by simp [Lib.byteCells]
theorem ax3 {d:Nat} (h:d < 10):((UInt8.ofNat (48+d)).toNat:Int)=48+(d:Int):=by
 have:(UInt8.ofNat (48+d)).toNat=48+d:=by
  rw [UInt8.toNat_ofNat']; omega
 omega
def VC (i u:Nat):Prop:=(i≤8∧u=10 ^ (8 - i))∨(i=9∧u=0)
theorem aGe:VC 0 100000000 := .inl ⟨by omega,by rfl⟩
theorem aGd {i:Nat} (h:VC i 0):i=9:=by
 rcases h with ⟨h,h1⟩ | ⟨h,_⟩
 ·have:0 < 10 ^ (8 - i):=Nat.pow_pos (by omega)
  omega
 ·exact h
theorem aGf {i u:Nat} (h:VC i u) (hu:u≠0):VC (i+1) (u / 10)∧i≤8:=by
 rcases h with ⟨h,h1⟩ | ⟨h,h1⟩
 ·refine ⟨?_,h⟩
  rcases Nat.lt_or_ge i 8 with h2 | h2
  ·left
   refine ⟨by omega,?_⟩
   rw [h1,show 8 - i=(8 - (i+1))+1 by omega,Nat.pow_succ,Nat.mul_div_cancel _ (by omega)]
  ·obtain rfl:i=8:=by omega
   right
   exact ⟨rfl,by rw [h1]⟩
 ·exact absurd h1 hu
theorem aBR {i u g:Nat} (h:VC i u) (hu:u≠0):DF (i+1) (g / 10 ^ (9 - (i+1)))=DF i (g / 10 ^ (9 - i))++[UInt8.ofNat (48+g / u % 10)]:=by
 rcases h with ⟨h,h1⟩ | ⟨h,h1⟩
 ·rw [DF,show 9 - (i+1)=8 - i by omega,← h1,Nat.div_div_eq_div_mul,h1,show 9 - i=(8 - i)+1 by omega,Nat.pow_succ]
 ·exact absurd h1 hu
theorem aBP {g:Nat} : DF 9 (g / 10 ^ (9 - 9))=DF 9 g:=by simp
theorem aBQ {g:Nat} : DF 0 (g / 10 ^ (9 - 0))=[]:=rfl
end Lw
namespace Go.Proofs.YtbihljnjaondcaaGreatDoor
open Go Go.RowKit Lw
theorem aoe:(Tryz.prog.info? 5).map (fun i=>(i.zero,i.size,i.bytes))=some (some (.int .u8 0),1,1):=by kernel_rfl
set_option maxRecDepth 100000 in
set_option maxHeartbeats 1600000 in
theorem axg (Bt g:Nat) (l:List UInt8) (v:Value) (n:Nat) (w:World) (hown:w.ownsRow Bt 5 1 v n (Lib.byteCells l)) (hB:Bt≤w.heap.size) (hn:n≤1099511627776) (hg:g≤4294967295) :
  Calls Tryz.prog 205 #[v,.int .u32 g] w fun e w' => ∃ v',e = .returned v'∧w'.ownsRow Bt 5 1 v' (n+9) (Lib.byteCells (l++DF 9 g))∧Below Bt w w'∧Lib.OthersKept 5 none w w':=by
 obtain ⟨i0,hi0,hz0,hz1,hz2⟩:=info_parts aoe
 go_enter Tryz.func205,Tryz.ntmps205
 go_wp2_with fail
 go_loopw [0,5] (fun tv uv wr => ∃ (i u:Nat),i≤9∧u≤100000000∧uv = .int .u32 u∧Hid (VC i u)∧wr.ownsRow Bt 5 1 tv (n+i) (Lib.byteCells (l++DF i (g / 10 ^ (9 - i))))∧Below Bt w wr∧Lib.OthersKept 5 none w wr) (fun _ uv _=>(intOf uv).toNat)
 case atStart=>exact ⟨0,100000000,by omega,by omega,rfl,Lib.hid aGe,by rw [aBQ,List.append_nil]; exact hown,Below.refl _ _,Lib.OthersKept.refl _ _ _⟩
 case round =>
  obtain ⟨i,u,hi,hu,rfl,hun,hown1,hb1,hk1⟩:=hrel
  clear hown
  by_cases h0:u=0
  ·subst h0
   have h9:=aGd hun.out
   subst h9
   rw [aBP] at hown1
   go_wp2_with fail
   go_ret
   exact ⟨_,rfl,hown1,hb1,hk1⟩
  ·have hst:=aGf hun.out h0
   have HS:=Lib.hid hst.1
   have HP:=Lib.hid (aBR (g:=g) hun.out h0)
   have hi8:=hst.2
   have hu1:1≤u:=by omega
   have hq:IntKind.u32.wrap ((g:Int) / (u:Int))=((g / u:Nat):Int):=by
    rw [← Int.natCast_ediv]
    exact IntWalk.u32_in _ (by have:=Nat.div_le_self g u; generalize g / u=Q at *; omega)
   have zg:g / u≤4294967295:=Nat.le_trans (Nat.div_le_self g u) hg
   clear hst h0 hun
   obtain ⟨Q,hQ⟩ : ∃ Q,Q=g / u:=⟨_,rfl⟩
   rw [← hQ] at hq zg HP
   clear hQ
   have hsz1:=hb1.size
   go_wp2_with (at_builtin; refine wpList_append_own _ rfl _ _ 122 rfl Bt 5 i0 _ 1 1 Tryz.underlying122 hi0 hz0 hz1 hz2 rfl (by decide) _ (n+i) _ rfl (hown1.alloc _) ⟨wr.heap.size,0,none⟩ 1 1 [.int .u8 (48+(Q:Int) % 10)] rfl rfl (World.news_of_block (cs := #[.int .u8 (48+(Q:Int) % 10)]) (t:=5) (fr:=(0,0)) (heap_alloc_new wr _)) (by simp [Value.oneCell']) (by unfold maxLen; omega) (by omega) (by simp; omega) ?_; intro v' w1 hown2 hgrow2 hnil)
   have hgrow:(wr.alloc (.cells #[.int .u8 (48+(Q:Int) % 10)] 5)).grownBy w1 u0.ownBlock:=hgrow2
   have hd:=ax3 (d:=Q % 10) (Nat.mod_lt _ (by omega))
   have HD:Hid ([Value.int .u8 (48+(Q:Int) % 10)]=[Value.int .u8 ((UInt8.ofNat (48+Q % 10)).toNat:Int)]):=Lib.hid (by rw [hd]; simp)
   clear hgrow2 hnil hd
   go_roundw
   case rel =>
    refine ⟨i+1,u / 10,by omega,by omega,by go_num,HS,?_,(hb1.alloc (by omega) _).grown hgrow (by simp; omega) (fun k hk=>(hown1.lt k hk).1),(hk1.alloc _).grown hgrow (Lib.ownsRow_kind (hown1.alloc _))⟩
    rw [HP.out,← List.append_assoc,byteCells_snoc,← HD.out]
    exact hown2
   case measure=>simp [intOf]; omega
end Go.Proofs.YtbihljnjaondcaaGreatDoor
namespace Lw
open Go Go.RowKit
def Parts (N M:Nat) (gs:List Nat):Prop:=Lib.decDigits N=Lib.decDigits M++tl gs∧M*2 ^ gs.length≤N∧(∀ x∈gs,x≤999999999)
theorem aBT (N:Nat):Parts N N []:=⟨by simp [asj],by simp,fun x h=>by cases h⟩
theorem aBU {N M:Nat} {gs:List Nat} (h:Parts N M gs) (hM:4294967296≤M):Parts N (M / 1000000000) (gs++[M % 1000000000])∧1≤M / 1000000000∧M / 1000000000 < M:=by
 refine ⟨⟨?_,?_,?_⟩,by omega,by omega⟩
 ·rw [h.1,aFV,← List.append_assoc]
  congr 1
  have:=axY 9 (M / 1000000000) (M % 1000000000) (by omega) (by simp only [Nat.reducePow]; omega)
  rw [← this]
  congr 1
  simp only [Nat.reducePow]; omega
 ·rw [List.length_append,List.length_singleton,Nat.pow_succ]
  have h1:M / 1000000000*(2 ^ gs.length*2)=(M / 1000000000*2)*2 ^ gs.length:=by grind
  rw [h1]
  exact Nat.le_trans (Nat.mul_le_mul_right _ (by omega)) h.2.1
 ·intro x hx
  rw [List.mem_append,List.mem_singleton] at hx
  rcases hx with hx | hx
  ·exact h.2.2 x hx
  ·omega
theorem aBZ (n:Nat):pw n=2 ^ (32*n):=by unfold pw; rw [Nat.pow_mul]
theorem apG {N M n:Nat} {gs:List Nat} (h:Parts N M gs) (hM:1≤M) (hN:N < pw n):gs.length < 32*n:=by
 rw [aBZ] at hN
 have h1:=Nat.mul_le_mul_right (2 ^ gs.length) hM
 have h2:2 ^ gs.length < 2 ^ (32*n):=by have:=h.2.1; omega
 exact (Nat.pow_lt_pow_iff_right (by omega)).1 h2
theorem aBV {N M:Nat} {gs:List Nat} (h:Parts N M gs):fQ gs:=fun x hx=>by have:=h.2.2 x hx; omega
theorem byteCells_append (a b:List UInt8):Lib.byteCells (a++b)=Lib.byteCells a++Lib.byteCells b:=by simp [Lib.byteCells]
theorem aFU (gs:List Nat) {j:Nat} (h:j < gs.length):tl (gs.drop j)=tl (gs.drop (j+1))++DF 9 (dg gs j):=by
 rw [List.drop_eq_getElem_cons h,aFT,Kt h]
theorem apE {w:World} {base:Nat} {e:TypeId} {v:Value} {n:Nat} {ns:List Nat} (h:w.ownsRow base e 1 v n (arr ns)) (hw:fQ ns) : ∃ A c,v = .slice A n c∧Rd w w.heap.size A ns∧ns.length=n:=by
 have hl:=h.1
 rw [GX,Nat.mul_one] at hl
 by_cases hv:v = .slice none 0 0
 ·subst hv
  have:n=0:=by
   rcases h.2 with ⟨_,h0⟩ | ⟨g,cap,cur,hv',_⟩
   ·exact h0
   ·cases hv'
  subst this
  exact ⟨none,0,rfl,by rw [List.eq_nil_of_length_eq_zero hl]; exact Rd.nil_ _ _ _,hl⟩
 ·obtain ⟨g,c,rfl,_,_,hb⟩:=abk h hv
  exact ⟨_,c,rfl,hb.rd hw,hl⟩
theorem own_below {w w':World} {base:Nat} {e:TypeId} {size:Nat} {v:Value} {n:Nat} {xs:List Value} (h:w.ownsRow base e size v n xs) (hb:Below w.heap.size w w'):w'.ownsRow base e size v n xs :=
 h.kept (row:=none) ⟨hb.os,hb.tape,hb.output,hb.size,fun k hk _=>hb.block k hk⟩ (by
  rcases h.2 with ⟨rfl,_⟩ | ⟨g,cap,cur,rfl,_⟩
  ·exact .inl rfl
  ·exact .inr (by simp [Value.ownBlock]))
theorem aBO {w w':World} {base g:Nat} {e:TypeId} {size:Nat} {v:Value} {n:Nat} {xs:List Value} (h:w.ownsRow base e size v n xs) (hg:w.grownBy w' (some g)) (hlt:g < base):w'.ownsRow base e size v n xs :=
 h.kept hg (by
  rcases h.2 with ⟨rfl,_⟩ | ⟨g',cap,cur,rfl,hb,_⟩
  ·exact .inl rfl
  ·exact .inr (by simp [Value.ownBlock]; omega))
theorem axt {w w':World} {base g:Nat} {t e:TypeId} {size:Nat} {v:Value} {n:Nat} {xs:List Value} {ns:List Nat} (h:fH w g t ns) (ho:w.ownsRow base e size v n xs) (hg:w.grownBy w' v.ownBlock) (hlt:g < base):fH w' g t ns :=
 h.of_same (hg.block g h.lt (fun e=>by have:=(ho.lt g e.symm).1; omega))
theorem axZ {M m:Nat} (h:(bg M).length=m) (hm:m≤1):dg (bg M) 0=M:=by
 have e1:=lG (l:=bg M) (k:=1) (by omega)
 rw [lg,xM,Jo,fA] at e1
 omega
theorem aF0 {M m:Nat} (h:(bg M).length=m) (hm:1 < m):4294967296≤M:=by
 have:=Y8 (vU M) (by intro e; rw [e] at h; simp at h; omega)
 rw [fA] at this
 have h2:pw 1≤pw ((bg M).length - 1):=uX (by omega)
 have h3:pw 1=4294967296:=rfl
 omega
theorem ace (k u:Nat) (h:u < 10 ^ (k+1)):(Lib.decDigits u).length≤k+1:=by
 induction k generalizing u with
 | zero=>rw [Lib.decDigits,dif_pos (by simpa using h)]; simp
 | succ k ih =>
  rw [Lib.decDigits]
  by_cases h1:u < 10
  ·rw [dif_pos h1]; simp
  ·rw [dif_neg h1,List.length_append]
   have:=ih (u / 10) (by rw [Nat.pow_succ] at h; omega)
   simp only [List.length_singleton]; omega
def Gr (t:TypeId) (w:World) (A:Option Addr) (gs:List Nat):Prop:=gs=[] ∨ ∃ g,A=some ⟨g,0,none⟩∧fH w g t gs
theorem Gr.rd {t:TypeId} {w:World} {A:Option Addr} {gs:List Nat} (h:Gr t w A gs) (hw:fQ gs):Rd w w.heap.size A gs:=by
 rcases h with rfl | ⟨g,rfl,h⟩
 ·exact Rd.nil_ _ _ _
 ·exact h.rd hw
theorem Gr.others {t e:TypeId} {w w':World} {A:Option Addr} {gs:List Nat} (h:Gr t w A gs) (hk:Lib.OthersKept e none w w') (ht:t≠e):Gr t w' A gs:=by
 rcases h with rfl | ⟨g,rfl,rest,h⟩
 ·exact .inl rfl
 ·exact .inr ⟨g,rfl,rest,hk g _ h (by simp) (fun c fz e=>by cases e; exact ht rfl)⟩
theorem Gr.drewN {t:TypeId} {w:World} {A:Option Addr} {gs:List Nat} (h:Gr t w A gs) (k:Nat):Gr t (w.drewN k) A gs:=h
theorem aBN {w:World} {base:Nat} {e:TypeId} {v:Value} {n:Nat} {ns:List Nat} (h:w.ownsRow base e 1 v n (arr ns)) : ∃ A c,v = .slice A n c∧Gr e w A ns:=by
 by_cases hv:v = .slice none 0 0
 ·subst hv
  have:n=0:=by
   rcases h.2 with ⟨_,h0⟩ | ⟨g,cap,cur,hv',_⟩
   ·exact h0
   ·cases hv'
  subst this
  have hl:=h.1
  rw [GX,Nat.mul_one] at hl
  exact ⟨none,0,rfl,.inl (List.eq_nil_of_length_eq_zero hl)⟩
 ·obtain ⟨g,c,rfl,_,_,hb⟩:=abk h hv
  exact ⟨_,c,rfl,.inr ⟨g,rfl,hb⟩⟩
end Lw
namespace Go.Proofs.YtbihljnjaondcaaGreatDoor
open Go Go.RowKit Lw
def Tab (w:World):Prop:=Lib.TabIs Tryz.prog w "internal/strconv.uint64pow10" .u64 Lib.pow10Tab
theorem Tab.next {w w':World} (h:Tab w) (hb:Below w.heap.size w w'):Tab w':=Lib.tabBelow_of_tabIs h w' hb
theorem axh (B n u:Nat) (hu:u < 18446744073709551616) (sv:Value) (xs:List Value) (w:World) (hown:w.ownsRow B 5 1 sv n xs) (hBw:B≤w.heap.size) (hlim:n≤1099511627776) (ht:Tab w) :
  Calls Tryz.prog 230 #[sv,.int .u64 u,.int .i64 10] w fun e w' => ∃ v',e = .returned v'∧w'.ownsRow B 5 1 v' (n+(Lib.decDigits u).length) (xs++Lib.byteCells (Lib.decDigits u))∧Below B w w'∧Lib.OthersKept 5 none w w':=by
 rcases Nat.lt_or_ge u 100 with h | h
 ·exact Tryz.internal_strconv_AppendUint_10_small B n u h sv xs w hown hBw (by omega)
 ·exact Tryz.internal_strconv_AppendUint_10_big B n u h hu sv xs w hown hBw (by omega) ht
theorem aHC (B n u:Nat) (hu:u < 18446744073709551616) (sv:Value) (xs:List Value) (w:World) (hown:w.ownsRow B 5 1 sv n xs) (hBw:B≤w.heap.size) (hlim:n≤1099511627776) (ht:Tab w) :
  Calls Tryz.prog 203 #[sv,.int .u64 u,.int .i64 10] w fun e w' => ∃ v',e = .returned v'∧w'.ownsRow B 5 1 v' (n+(Lib.decDigits u).length) (xs++Lib.byteCells (Lib.decDigits u))∧Below B w w'∧Lib.OthersKept 5 none w w':=by
 go_enter Tryz.func203,Tryz.ntmps203
 go_wp2_with fail
 refine (axh B n u hu sv xs w hown hBw hlim ht).mono ?_
 rintro e w1 ⟨v',rfl,h1,h2,h3⟩
 go_wp2_with fail
 go_ret
 exact ⟨_,rfl,h1,h2,h3⟩
set_option maxRecDepth 100000 in
set_option maxHeartbeats 3200000 in
theorem alD (Bt N:Nat) (l:List UInt8) (v:Value) (nt:Nat) (A:Option Addr) (n c B:Nat) (w:World) (hown:w.ownsRow Bt 5 1 v nt (Lib.byteCells l)) (hBt:Bt≤w.heap.size) (hnt:nt≤65536)
  (h:Rd w B A (bg N)) (hB:B≤w.heap.size) (hn:(bg N).length=n) (hl:n≤8388608) (ht:Tab w) :
  Calls Tryz.prog 152 #[v,.slice A n c] w fun e w' => ∃ v' k,e = .returned v'∧w'.ownsRow Bt 5 1 v' k (Lib.byteCells (l++Lib.decDigits N))∧Below Bt w w':=by
 have Hn:=Lib.hid hn
 clear hn
 have HNp:Hid (N < pw n):=Lib.hid (by rw [← Hn.out]; exact Dz (Nat.le_refl _))
 go_enter Tryz.func152,Tryz.ntmps152
 go_wp2_with fail
 refine (clone_any A (bg N) _ _ B _ h hB Hn.out (by omega)).mono ?_
 rintro e w1 ⟨A1,c1,rfl,hc1,hg1,hr1,hb1⟩
 have ht1:=ht.next hb1
 have ald:=Lib.hid hown
 have HT:=Lib.hid ht
 have hsz1:=hb1.size
 clear hown ht1 ht h
 go_wp2_with fail
 go_loopg [5,6] N (fun M gv rv wr => ∃ (gs:List Nat) (k:Nat) (A6:Option Addr) (m c6:Nat),rv = .slice A6 m c6∧m≤c6∧m≤n∧Hid ((bg M).length=m)∧(0 < m → ∃ g,A6=some ⟨g,0,none⟩∧w.heap.size≤g∧g < w1.heap.size∧fH wr g 99 (bg M)) ∧
   wr.ownsRow w1.heap.size 99 1 gv k (arr gs)∧Hid (Parts N M gs)∧Hid (gs=[]∨1≤M)∧Below w.heap.size w wr∧w1.heap.size≤wr.heap.size)
 case atStart =>
  refine ⟨[],0,A1,n,c1,rfl,hc1,Nat.le_refl _,Hn,?_,World.ownsRow_nil _ _ _ _,Lib.hid (aBT N),Lib.hid (.inl rfl),hb1,Nat.le_refl _⟩
  intro h0
  obtain ⟨g,h1,h2,h3⟩:=hg1 h0
  exact ⟨g,h1,h2,h3.lt,h3⟩
 case round =>
  obtain ⟨gs,k,A6,m,c6,rfl,hc6,hmn,hm,hblk6,UK,hparts,hone,hbw,aOq⟩:=hrel
  by_cases hm1:1 < m
  ·obtain ⟨g,rfl,hg0,hgl,hblk⟩:=hblk6 (by omega)
   have HM:=Lib.hid (aF0 hm.out hm1)
   have HS:=Lib.hid (aBU hparts.out HM.out)
   have hk:=UK.1
   rw [GX,Nat.mul_one] at hk
   have HK:=Lib.hid hk
   have hkl:k≤268435456:=by have:=apG hparts.out (by have:=HM.out; omega) HNp.out; omega
   clear hblk6 hk
   go_wp2_with fail
   refine (amH g 1000000000 (bg gk) _ c6 _ hblk (mJ _) hm.out (by omega) (by omega) (by omega) (by omega)).mono ?_
   rintro e w3 ⟨ds,rfl,hblk3,hw3,hl3,hv3,hg3,hs3⟩
   rw [fA] at hv3 ⊢
   obtain ⟨R,hR⟩ : ∃ R,R=gk % 1000000000:=⟨_,rfl⟩
   rw [← hR] at HS ⊢
   have hRl:R≤999999999:=by omega
   clear hR
   obtain ⟨Q,hQ⟩ : ∃ Q,Q=gk / 1000000000:=⟨_,rfl⟩
   rw [← hQ] at HS hv3
   clear hQ
   have hb4:=below_of_grown hbw hg3 (by omega) hg0
   have acP:=aBO UK hg3 hgl
   have HV3:=Lib.hid hv3
   have Po:=Lib.hid hl3
   have hsz3:w1.heap.size≤w3.heap.size:=by omega
   clear hblk UK hg3 hv3 hl3 hs3
   have PO:=(fH.new w3 99 [R]).rd (by rw [Cb]; exact ⟨by omega,Bj⟩)
   go_wp2_with (at_builtin; refine afk _ rfl _ _ 22 rfl w1.heap.size 99 aYN Az _ k gs rfl (acP.alloc _) _ _ [R] 1 1 rfl PO rfl (by omega) (by simp; omega) ?_; intro v' w4 hown4 hgrow4 hnil)
   have hgrow:(w3.alloc (.cells #[.int .u32 (R:Int)] 99)).grownBy w4 u5.ownBlock:=hgrow4
   have UH:=axt (hblk3.alloc (.cells #[.int .u32 (R:Int)] 99)) (acP.alloc _) hgrow hgl
   have anZ:=hgrow.size
   have acV:w1.heap.size≤w4.heap.size:=by simp at anZ; omega
   have hb5:Below w.heap.size w w4:=(hb4.alloc (by omega) _).grown hgrow (by simp; omega) (fun k hk=>by have:=(acP.lt k hk).1; omega)
   have yj:=UH.rd hw3
   clear hgrow4 hnil acP hgrow anZ PO
   refine (H6 _ ds _ c6 _ _ yj Po.out hc6 (by omega)).mono ?_
   rintro e w5 ⟨rfl,rfl⟩
   rw [HV3.out]
   go_wp2_with fail
   go_roundg Q
   case measure=>exact HS.out.2.2
   case rel =>
    refine ⟨gs++[R],k+1,_,(bg Q).length,c6,rfl,?_,?_,Lib.hid rfl,fun _=>⟨g,rfl,hg0,hgl,?_⟩,hown4,Lib.hid HS.out.1,Lib.hid (.inr HS.out.2.1),hb5,acV⟩
    ·have:=BI hw3; rw [HV3.out,Po.out] at this; omega
    ·have:=BI hw3; rw [HV3.out,Po.out] at this; omega
    ·have:=UH.bg hw3; rw [HV3.out] at this; exact this
  ·have I9:Rd wr wr.heap.size A6 (bg gk):=by
    rcases Nat.eq_zero_or_pos m with h0 | h0
    ·have e0:bg gk=[]:=List.eq_nil_of_length_eq_zero (by rw [hm.out]; exact h0)
     rw [e0]; exact Rd.nil_ _ _ _
    ·obtain ⟨g,rfl,_,_,hblk⟩:=hblk6 h0
     exact hblk.rd (mJ _)
   have HD0:Hid (wd (bg gk) 0=gk):=Lib.hid (by have:=Dq (bg gk) 0; rw [axZ hm.out (by omega)] at this; exact this)
   have hgk:gk < 4294967296:=by have:=H7 (mJ gk) 0; rw [HD0.out] at this; exact this
   have hk:=UK.1
   rw [GX,Nat.mul_one] at hk
   have hkl:k≤268435456:=by
    rcases hone.out with h0 | h0
    ·rw [h0] at hk; simp at hk; omega
    ·have:=apG hparts.out h0 HNp.out; omega
   have HK:=Lib.hid hk
   have hown5:=own_below ald.out hbw
   have ht5:=HT.out.next hbw
   have ale:=Lib.hid hown5
   have HT5:=Lib.hid ht5
   have atO:=Lib.hid hparts.out.1
   have hgw:fQ gs:=aBV hparts.out
   clear hblk6 hk hown5 ht5
   go_wp2_with fail
   refine (H9 A6 (bg gk) _ c6 _ 0 _ I9 hm.out (by omega)).mono ?_
   rintro e w3 ⟨rfl,rfl⟩
   rw [HD0.out]
   go_wp2_with fail
   have azV:=hbw.size
   refine (aHC Bt nt gk (by omega) v _ _ ale.out (by omega) (by omega) HT5.out).mono ?_
   rintro e w3 ⟨v3,rfl,hown3,hb3,hk3⟩
   have HDL:(Lib.decDigits gk).length≤10:=ace 9 gk (by simp only [Nat.reduceAdd,Nat.reducePow]; omega)
   obtain ⟨D,hD⟩ : ∃ D,D=(Lib.decDigits gk).length:=⟨_,rfl⟩
   rw [← hD] at HDL hown3
   clear hD
   obtain ⟨A5,c5,rfl,hgr⟩:=aBN UK
   have anA:=hgr.others hk3 (by decide)
   have hb6:Below Bt w w3:=(hbw.mono hBt).trans hb3
   clear hgr UK hk3 hb3 hb1 hr1 hg1 ald ale HT HT5 I9
   rw [← byteCells_append] at hown3
   go_wp2_with fail
   go_loopw [0,7] (fun tv iv wr' => ∃ (i:Int) (q:Nat),-1≤i∧i < k∧iv = .int .i64 i∧(q:Int)+9*(i+1)=nt+D+9*k ∧
     wr'.ownsRow Bt 5 1 tv q (Lib.byteCells (l++Lib.decDigits gk++tl (gs.drop (i+1).toNat)))∧Below Bt w wr'∧Gr 99 wr' A5 gs) (fun _ iv _=>(intOf iv+1).toNat)
   case atStart =>
    refine ⟨(k:Int) - 1,nt+D,by omega,by omega,rfl,by omega,?_,?_,?_⟩
    ·rw [show ((k:Int) - 1+1).toNat=k by omega,List.drop_of_length_le (by rw [HK.out]; exact Nat.le_refl _),asj,List.append_nil]
     exact hown3
    ·exact hb6
    ·exact anA
   case round =>
    obtain ⟨i,q,hi0,hi1,rfl,hq,hown4,hb7,anB⟩:=hrel
    clear hown3 hb6 anA
    by_cases hi:0≤i
    ·obtain ⟨j,rfl⟩:=Int.eq_ofNat_of_zero_le hi
     rw [show ((j:Int)+1).toNat=j+1 by omega] at hown4
     obtain ⟨b,off,rfl,hb,hcell,hlt⟩:=(anB.rd hgw).at_ (k:=j) (by rw [HK.out]; omega)
     have HTL:=Lib.hid (aFU gs (j:=j) (by rw [HK.out]; omega))
     have aOm:=hb7.size
     obtain ⟨G,hG⟩ : ∃ G,G=dg gs j:=⟨_,rfl⟩
     rw [← hG] at HTL hcell hlt
     clear hG hi
     go_wp2_with fail
     refine (axg Bt G _ u0 q _ hown4 (by omega) (by omega) (by omega)).mono ?_
     rintro e w4 ⟨v4,rfl,hown5,hb8,hk8⟩
     go_wp2_with fail
     go_roundw
     case rel =>
      refine ⟨(j:Int) - 1,q+9,by omega,by omega,rfl,by omega,?_,hb7.trans hb8,anB.others hk8 (by decide)⟩
      rw [show ((j:Int) - 1+1).toNat=j by omega,HTL.out,← List.append_assoc]
      exact hown5
     case measure=>simp [intOf]
    ·obtain rfl:i = -1:=by omega
     have HD:Hid (Lib.decDigits gk++tl (gs.drop (-1+1:Int).toNat)=Lib.decDigits N):=Lib.hid (by rw [atO.out]; rfl)
     go_wp2_with fail
     go_ret
     refine ⟨u0,rfl,⟨q,?_⟩,hb7⟩
     rw [← HD.out,← List.append_assoc]
     exact hown4
end Go.Proofs.YtbihljnjaondcaaGreatDoor
namespace Lw
open Go Go.RowKit
theorem itoa_neg {z:Int} (h:sg z=true):Lib.itoa z=[45]++Lib.decDigits z.natAbs:=by
 have:=aju h
 unfold Lib.itoa; rw [if_pos (by omega)]; rfl
theorem Yn {z:Int} (h:sg z=false):Lib.itoa z=[]++Lib.decDigits z.natAbs:=by
 have:=ajt h
 unfold Lib.itoa; rw [if_neg (by omega),show z.toNat=z.natAbs by omega]; rfl
theorem amv (u:Nat):0 < (Lib.decDigits u).length:=by
 rw [Lib.decDigits]
 by_cases h:u < 10
 ·rw [dif_pos h]; simp
 ·rw [dif_neg h]; simp
theorem apF {P:Program} {w:World} {base n:Nat} {e src dst:TypeId} {v:Value} {l:List UInt8} (h:w.ownsRow base e 1 v n (Lib.byteCells l)) (hl:0 < l.length)
  (hs:P.underlying src=some (.slice e)) (he:P.underlying e=some (.int .u8)) (hd:P.underlying dst=some .string) :
  ∃ g c,v = .slice (some ⟨g,0,none⟩) l.length c∧(convert src dst (.slice (some ⟨g,0,none⟩) l.length c)).run P w = .ok (.string ⟨l.toArray⟩) w:=by
 have h1:=h.1
 rw [Lib.byteCells_length,Nat.mul_one] at h1
 rcases h.2 with ⟨_,h0⟩ | ⟨g,cap,cur,hv',hb,hg,hnc,hcm,hcs,htake⟩
 ·omega
 ·refine ⟨g,cap,by rw [hv',h1],run_convert_bytes_back w src dst e ⟨g,0,none⟩ cap l hs he hd fun j hj => ?_⟩
  have ha:(⟨g,0,none⟩:Addr).add j=⟨g,j,none⟩:=by unfold Addr.add; split <;> simp_all
  rw [ha,cell_of_row w g j _ e (0,0) hg]
  have:cur.toList[j]? = (Lib.byteCells l)[j]? := by
   rw [← htake,List.getElem?_take_of_lt (by omega)]
  rw [← Array.getElem?_toList,this]
  simp [Lib.byteCells,hj]
end Lw
namespace Go.Proofs.YtbihljnjaondcaaGreatDoor
open Go Go.RowKit Lw
theorem asu:Tryz.prog.underlying 122=some (.slice 5):=by kernel_rfl
theorem ast:Tryz.prog.underlying 5=some (.int .u8):=by kernel_rfl
theorem asv:Tryz.prog.underlying 9=some .string:=by kernel_rfl
set_option maxRecDepth 100000 in
set_option maxHeartbeats 1600000 in
theorem aFP (s:Bool) (A:Option Addr) (ns:List Nat) (n c B:Nat) (w:World) (h:Rd w B A ns) (hB:B≤w.heap.size) (hn:ns.length=n) (hl:n≤8388608) (hc:n≤c) (ht:Tab w) :
  Calls Tryz.prog 82 #[.agg #[.bool s,.slice A n c]] w fun e w'=>e = .returned (.string ⟨(Lib.itoa (zv s ns)).toArray⟩)∧Below w.heap.size w w':=by
 have hlz:=Cc (s:=s) h.gW
 rw [hn] at hlz
 have hk:=fun W hR hB'=>EQ s A ns n c B W hR hB' hn (by omega) hc
 generalize zv s ns=z at *
 have Hk:=Lib.hid hk
 have HT:=Lib.hid ht
 obtain ⟨i0,hi0,hz0,hz1,hz2⟩:=info_parts aoe
 clear hk ht
 go_enter Tryz.func82,Tryz.ntmps82
 go_wp2_with fail
 refine (Hk.out _ (h.alloc hB _) (by simp; omega)).mono ?_
 rintro e w1 ⟨A1,c1,rfl,hc1,hr1,hb1⟩
 obtain ⟨t1,hs1,hb2⟩:=box1 hb1
 have T1:=t1.put (.bool (sg z)) (.slice A1 (mg z).length c1)
 have R1:=hr1.yF t1 (sg z) (.slice A1 (mg z).length c1)
 have hb3:=(hb2.setCell (p:=⟨w.heap.size,0,none⟩) (Nat.le_refl _) (.bool (sg z))).setCell (p:=⟨w.heap.size,1,none⟩) (Nat.le_refl _) (.slice A1 (mg z).length c1)
 obtain ⟨c10,c11,f10,f11⟩:=t1.facts
 obtain ⟨d10,d11,g10,g11⟩:=T1.facts
 cases hsg:sg z
 ·have HI:=Lib.hid (Yn hsg)
  go_wp2_with fail
  rw [hsg] at R1 hb3
  refine (alD w.heap.size z.natAbs [] _ 0 A1 (mg z).length c1 B _ (World.ownsRow_nil _ _ _ _) hb3.size (by omega) R1 (by simp; omega) rfl (by omega) (HT.out.next hb3)).mono ?_
  rintro e w2 ⟨v2,k2,rfl,hown2,hb4⟩
  rw [← HI.out] at hown2
  obtain ⟨g,c2,rfl,hrun⟩:=apF (P:=Tryz.prog) hown2 (by rw [HI.out]; have:=amv z.natAbs; simp; omega) asu ast asv
  have hbE:=hb3.trans hb4
  clear hown2 hb4 hb3
  go_wp2_with fail
  go_ret
  exact ⟨rfl,hbE⟩
 ·have HI:=Lib.hid (itoa_neg hsg)
  rw [hsg] at R1 hb3 T1 d10 d11 g10 g11
  have hszA:=hb3.size
  have hown0:=World.ownsRow_nil ((w1.setCell ⟨w.heap.size,0,none⟩ (.bool true)).setCell ⟨w.heap.size,1,none⟩ (.slice A1 (mg z).length c1)) w.heap.size 5 1
  have hnew:=heap_alloc_new ((w1.setCell ⟨w.heap.size,0,none⟩ (.bool true)).setCell ⟨w.heap.size,1,none⟩ (.slice A1 (mg z).length c1)) (.cells #[.int .u8 45] 5)
  rw [World.size_setCell,World.size_setCell] at hnew
  go_wp2_with (at_builtin; go_loud (refine wpList_append_own _ rfl _ _ 122 rfl w.heap.size 5 i0 _ 1 1 Tryz.underlying122 hi0 hz0 hz1 hz2 rfl (by decide) _ 0 _ rfl (hown0.alloc _) ⟨w1.heap.size,0,none⟩ 1 1 [.int .u8 45] rfl rfl (World.news_of_block (cs := #[.int .u8 45]) (t:=5) (fr:=(0,0)) hnew) (by simp [Value.oneCell']) (by unfold maxLen; omega) (by omega) (by simp; omega) ?_); intro v' w2 hown2 hgrow2 hnil; have hgrow:(((w1.setCell ⟨w.heap.size,0,none⟩ (.bool true)).setCell ⟨w.heap.size,1,none⟩ (.slice A1 (mg z).length c1)).alloc (.cells #[.int .u8 45] 5)).grownBy w2 none:=hgrow2; have T2:Two w2 w.heap.size _ _ _:=(hgrow.block w.heap.size (by simp; omega) (by simp)).trans (T1.alloc _); obtain ⟨d20,d21,g20,g21⟩:=T2.facts)
  have hb4:=(hb3.alloc (by omega) (.cells #[.int .u8 45] 5)).grown hgrow (by simp; omega) (fun k hk=>by simp at hk)
  have R2:=R1.below (((Below.refl B _).alloc (by simp; omega) (.cells #[.int .u8 45] 5)).grown hgrow (by simp; omega) (fun k hk=>by simp at hk))
  have hown:w2.ownsRow w.heap.size 5 1 v' 1 (Lib.byteCells [45]):=hown2
  refine (alD w.heap.size z.natAbs [45] _ 1 A1 (mg z).length c1 B _ hown hb4.size (by omega) R2 (by have:=hb4.size; omega) rfl (by omega) (HT.out.next hb4)).mono ?_
  rintro e w3 ⟨v3,k3,rfl,hown3,hb5⟩
  rw [← HI.out] at hown3
  obtain ⟨g,c3,rfl,hrun⟩:=apF (P:=Tryz.prog) hown3 (by rw [HI.out]; have:=amv z.natAbs; simp) asu ast asv
  have hbE:=hb4.trans hb5
  clear hown3 hb5 hb4 hb3 hown hown2 hgrow2 hgrow hown0
  go_wp2_with fail
  go_ret
  exact ⟨rfl,hbE⟩
end Go.Proofs.YtbihljnjaondcaaGreatDoor
namespace Go.Proofs.YtbihljnjaondcaaGreatDoor
open Go Go.RowKit Lw
set_option maxHeartbeats 1600000 in
theorem aq0 (A:Option Addr) (N n c B:Nat) (w:World) (h:Rd w B A (bg N)) (_hB:B≤w.heap.size) (hn:(bg N).length=n) (hl:n≤2) :
  Calls Tryz.prog 213 #[.slice A n c] w (Dw w (rt N)):=by
 have HL:Hid (lo (bg N) 2=N):=Lib.hid (by rw [lG (by rw [hn]; exact hl),fA])
 have hN2:N≤18446744073709551615:=by have:=Dz (n:=N) (k:=2) (by rw [hn]; exact hl); have h3:pw 2=18446744073709551616:=rfl; omega
 have Hn:=Lib.hid hn
 clear hn
 have hrl:rt N≤18446744073709551615:=by
  have:=OG N
  rcases Nat.eq_zero_or_pos (rt N) with h0 | h0
  ·omega
  ·have:=Nat.mul_le_mul_left (rt N) h0; omega
 have Nj:=Lib.hid hrl
 clear hrl
 go_enter Tryz.func213,Tryz.ntmps213
 go_wp2_with fail
 refine (SA A (bg N) _ c B _ h Hn.out (by omega)).mono ?_
 rintro e w2 ⟨rfl,rfl⟩
 rw [HL.out]
 go_wp2_with fail
 refine (aFA N _ hN2).mono ?_
 rintro e w3 ⟨rfl,rfl⟩
 go_wp2_with fail
 refine (Qo (rt N) _ Nj.out).mono ?_
 rintro e w5 ⟨A5,c5,rfl,hc5,yj,hb5⟩
 go_wp2_with fail
 go_ret
 exact ⟨A5,c5,rfl,hc5,yj,hb5⟩
end Go.Proofs.YtbihljnjaondcaaGreatDoor
namespace Go.Proofs.YtbihljnjaondcaaGreatDoor
open Go Go.RowKit Lw
def agR:Prop := ∀ (A:Option Addr) (N n c B:Nat) (w:World),Rd w B A (bg N)→B≤w.heap.size→(bg N).length=n→n≤8388608→n≤c →
 Calls Tryz.prog 213 #[.slice A n c] w (Dw w (rt N))
theorem aEK (A:Option Addr) (N n c B:Nat) (w:World) (h:Rd w B A (bg N)) (hB:B≤w.heap.size) (hn:(bg N).length=n) (hl:n≤8388608) (hc:n≤c) (HR:n≤2∨agR) :
  Calls Tryz.prog 213 #[.slice A n c] w (Dw w (rt N)):=by
 rcases HR with HR | HR
 ·exact aq0 A N n c B w h hB hn HR
 ·exact HR A N n c B w h hB hn hl hc
def aw0 (w:World) (z:Int) (e:Ending) (w':World):Prop :=
 ∃ A c,e = .returned (.tuple #[.agg #[.bool (sg z),.slice A (mg z).length c],.nilIface])∧(mg z).length≤c∧Rd w' w'.heap.size A (mg z)∧Below w.heap.size w w'
set_option maxHeartbeats 1600000 in
theorem aEM (s:Bool) (A:Option Addr) (ns:List Nat) (n c B:Nat) (w:World) (h:Rd w B A ns) (hB:B≤w.heap.size) (hn:ns.length=n) (hl:n≤8388608) (hc:n≤c) (hz:0≤zv s ns) (HR:n≤2∨agR) :
  Calls Tryz.prog 158 #[.agg #[.bool s,.slice A n c]] w (aw0 w ((rt (zv s ns).natAbs:Nat):Int)):=by
 have hlz:=Cc (s:=s) h.gW
 rw [hn] at hlz
 have hsg:sg (zv s ns)=false:=by unfold sg; simpa using hz
 have hk:=fun W hR hB'=>EQ s A ns n c B W hR hB' hn (by omega) hc
 generalize zv s ns=z at *
 have Hk:=Lib.hid hk
 have HRH:=Lib.hid HR
 clear hk hz HR
 go_enter Tryz.func158,Tryz.ntmps158
 go_wp2_with fail
 refine (Hk.out _ ((h.alloc hB _).alloc (by simp; omega) _) (by simp; omega)).mono ?_
 rintro e w1 ⟨A1,c1,rfl,hc1,hr1,hb1⟩
 obtain ⟨t1,t2,hs1,hb2⟩:=fF hb1
 have T2:=(t2.far (p:=⟨w.heap.size,0,none⟩) (by simp) (.bool (sg z))).far (p:=⟨w.heap.size,1,none⟩) (by simp) (.slice A1 (mg z).length c1)
 have R1:=hr1.yF t1 (sg z) (.slice A1 (mg z).length c1)
 have hb3:=(hb2.setCell (p:=⟨w.heap.size,0,none⟩) (Nat.le_refl _) (.bool (sg z))).setCell (p:=⟨w.heap.size,1,none⟩) (Nat.le_refl _) (.slice A1 (mg z).length c1)
 obtain ⟨c10,c11,f10,f11⟩:=t1.facts
 obtain ⟨c20,c21,f20,f21⟩:=t2.facts
 rw [hsg] at T2 R1 hb3
 go_wp2_with fail
 refine (aEK A1 z.natAbs _ c1 B _ R1 (by have:=hb3.size; omega) rfl (Nat.le_trans hlz hl) hc1 (HRH.out.imp (fun h=>Nat.le_trans hlz h) id)).mono ?_
 rintro e w2 ⟨A2,c2,rfl,hc2,hr2,hb4⟩
 have U2:=T2.next hb4
 generalize rt z.natAbs=G at *
 go_wp2_with fail
 refine (Eh false A2 G _ c2 _ (G:Int) _ hr2 (Nat.le_refl _) rfl hc2 rfl).mono ?_
 rintro e w4 ⟨A4,c4,rfl,hc4,hr4,hb5⟩
 have V2:=U2.next hb5
 obtain ⟨d0,d1,g0,g1⟩:=V2.facts
 have hsz3:=hb3.size
 have acV:=hb4.size
 go_wp2_with fail
 refine bodyPost_ret (v := .tuple #[.agg #[.bool (sg (G:Int)),.slice A4 (mg (G:Int)).length c4],.nilIface]) (by simp [results,Tryz.results158,go_sem,d0,d1]) rfl ?_
 obtain ⟨A5,c5,he,h1,h2,h3⟩:=zX V2 hr4 hb5.size hc4 (fK (fK hb3 hb4 (Nat.le_refl _)) hb5 (Nat.le_refl _)) (by omega)
 injection he with he
 injection he with he
 simp at he
 obtain ⟨rfl,rfl⟩:=he
 exact ⟨A4,c4,rfl,h1,h2,h3⟩
end Go.Proofs.YtbihljnjaondcaaGreatDoor
namespace Lw
theorem amK {a b q r:Int} (hb:b≠0) (h:r+b*q=a) (h0:0≤r) (h1:r < b.natAbs):a / b=q∧a % b=r:=by
 rcases Int.lt_or_gt_of_ne hb with h2 | h2
 ·rw [Int.ediv_emod_unique' h2]; exact ⟨h,h0,by omega⟩
 ·rw [Int.ediv_emod_unique h2]; exact ⟨h,h0,by omega⟩
theorem amJ {z z':Int} (h:z'≠0) :
  z.natAbs % z'.natAbs < z'.natAbs ∧
  (sg z=true→z.natAbs % z'.natAbs≠0→z / z'=sv (sg z != sg z') (z.natAbs / z'.natAbs+1)∧z % z'=((z'.natAbs - z.natAbs % z'.natAbs:Nat):Int)) ∧
  ((sg z=false∨z.natAbs % z'.natAbs=0)→z / z'=sv (sg z != sg z') (z.natAbs / z'.natAbs)∧z % z'=((z.natAbs % z'.natAbs:Nat):Int)):=by
 have hpos:0 < z'.natAbs:=by omega
 have hR:=Nat.mod_lt z.natAbs hpos
 have hdm:=Nat.mod_add_div z.natAbs z'.natAbs
 have e1:=Vw z
 have e2:=Vw z'
 rw [vV] at e1 e2
 generalize z.natAbs % z'.natAbs=R at *
 generalize z.natAbs / z'.natAbs=Q at *
 generalize hN:z.natAbs=N at *
 generalize hM:z'.natAbs=M at *
 have hc:(N:Int)=(R:Int)+(M:Int)*(Q:Int):=by rw [← hdm]; simp
 generalize hx:(M:Int)*(Q:Int)=x at hc
 refine ⟨hR,?_,?_⟩
 ·intro h1 h2
  rw [h1] at e1 ⊢
  cases hs:sg z' <;> rw [hs] at e2 <;> simp at e1 e2 <;> refine amK h ?_ (by omega) (by omega)
  ·simp only [sv]; rw [e2]; simp only [Bool.true_bne,Bool.not_false,if_true]
   rw [Int.mul_neg,Int.natCast_add,Int.mul_add,hx]; simp; omega
  ·simp only [sv]; rw [e2]; simp
   rw [Int.neg_mul,Int.mul_add,hx]; omega
 ·intro h1
  cases hs:sg z' <;> rw [hs] at e2 <;> cases hs1:sg z <;> rw [hs1] at e1 h1 <;> simp at e1 e2 h1 <;> refine amK h ?_ (by omega) (by omega) <;> simp [sv] <;> rw [e2] <;> simp only [Int.neg_mul,Int.mul_neg,hx] <;> omega
end Lw
namespace Go.Proofs.YtbihljnjaondcaaGreatDoor
open Go Go.RowKit Lw
theorem axu (w:World) (t:TypeId):fH (w.alloc (.cells #[.int .u32 1] t)) w.heap.size t [1]:=fH.new w t [1]
theorem aHt:fQ [1]:=by rw [Cb]; exact ⟨by omega,Bj⟩
def atu (w:World) (q r:Int) (e:Ending) (w':World):Prop :=
 ∃ A c A' c',e = .returned (.tuple #[.agg #[.bool (sg q),.slice A (mg q).length c],.agg #[.bool (sg r),.slice A' (mg r).length c'],.nilIface])∧(mg q).length≤c∧(mg r).length≤c'∧Rd w' w'.heap.size A (mg q)∧Rd w' w'.heap.size A' (mg r)∧Below w.heap.size w w'
end Go.Proofs.YtbihljnjaondcaaGreatDoor
namespace Go.Proofs.YtbihljnjaondcaaGreatDoor
open Go Go.RowKit Lw
attribute [local go_sem ↓] Go.wp_at_zero Go.wp_at_succ
set_option maxHeartbeats 3200000 in
theorem ayd (s s':Bool) (A A':Option Addr) (ns ms:List Nat) (n m c c' B B':Nat) (w:World) (h:Rd w B A ns) (h':Rd w B' A' ms) (hB:B≤w.heap.size) (hB':B'≤w.heap.size)
  (hn:ns.length=n) (hm:ms.length=m) (hl:n≤8388608) (hl':m≤8388608) (hc:n≤c) (hc':m≤c') (hz:zv s' ms≠0) (HL:n≤2∨agQ) :
  Calls Tryz.prog 155 #[.agg #[.bool s,.slice A n c],.agg #[.bool s',.slice A' m c']] w (atu w (zv s ns / zv s' ms) (zv s ns % zv s' ms)):=by
 have hlz:=Cc (s:=s) h.gW
 have hlz':=Cc (s:=s') h'.gW
 rw [hn] at hlz
 rw [hm] at hlz'
 have HNZ:=Lib.hid hz
 have HLH:=Lib.hid HL
 clear hz HL
 go_enter Tryz.func155,Tryz.ntmps155
 go_upto_region 1 with fail
 obtain ⟨T1,T2,T3,T4,_,hb0⟩:=axx (Below.refl _ ((((w.alloc (.cells #[.bool s,.slice A n c] 39)).alloc (.cells #[.bool s',.slice A' m c'] 39)).alloc (.cells #[.bool false,.slice none 0 0] 39)).alloc (.cells #[.bool false,.slice none 0 0] 39)))
 have R1:=h.below (hb0.mono hB)
 have R2:=h'.below (hb0.mono hB')
 generalize hW:((((w.alloc (.cells #[.bool s,.slice A n c] 39)).alloc (.cells #[.bool s',.slice A' m c'] 39)).alloc (.cells #[.bool false,.slice none 0 0] 39)).alloc (.cells #[.bool false,.slice none 0 0] 39))=W at *
 clear hW
 have l3:=T4.lt
 obtain ⟨c10,c11,f10,f11⟩:=T1.facts
 obtain ⟨c20,c21,f20,f21⟩:=T2.facts
 go_cut [] (fun wc => ∃ A1 c1 A2 c2,Two wc w.heap.size 39 (.bool (sg (zv s ns))) (.slice A1 (mg (zv s ns)).length c1)∧Two wc (w.heap.size+1) 39 (.bool (sg (zv s' ms))) (.slice A2 (mg (zv s' ms)).length c2) ∧
  Two wc (w.heap.size+1+1) 39 (.bool false) (.slice none 0 0)∧Two wc (w.heap.size+1+1+1) 39 (.bool false) (.slice none 0 0)∧Rd wc B A1 (mg (zv s ns))∧Rd wc B' A2 (mg (zv s' ms))∧Below w.heap.size w wc∧(mg (zv s ns)).length≤c1∧(mg (zv s' ms)).length≤c2)
 case first =>
  go_region_with (first
   | (go_at_call_of 151 (Value.agg #[Value.bool s,Value.slice A n c]); refine (EQ s A ns n c B _ (by first | exact R1.drew | exact R1.next K2 (by omega)) (by first | (simp; omega) | (have:=K2.size; omega)) hn (by omega) hc).mono ?_; rintro e w1 ⟨A1,c1,rfl,hc1,hr1,hb1⟩; have K1:Below W.heap.size W w1:=(by first | exact F7 hb1 | exact Jn K2 hb1); obtain ⟨d10,d11,g10,g11⟩:=(T1.next K1).facts; obtain ⟨d20,d21,g20,g21⟩:=(T2.next K1).facts)
   | (go_at_call_of 151 (Value.agg #[Value.bool s',Value.slice A' m c']); refine (EQ s' A' ms m c' B' _ (by first | exact R2.drew | exact R2.next K1 (by omega)) (by first | (simp; omega) | (have:=K1.size; omega)) hm (by omega) hc').mono ?_; rintro e w2 ⟨A2,c2,rfl,hc2,hr2,hb2⟩; have K2:Below W.heap.size W w2:=(by first | exact F7 hb2 | exact Jn K1 hb2); obtain ⟨i10,i11,j10,j11⟩:=(T1.next K2).facts; obtain ⟨i20,i21,j20,j21⟩:=(T2.next K2).facts))
  all_goals
   obtain ⟨P1,P2,P3,P4,P5⟩:_∧_∧_∧_∧_:=by
    first
     | exact F9 (sg (zv s ns)) (sg (zv s' ms)) (.slice A1 (mg (zv s ns)).length c1) (.slice A2 (mg (zv s' ms)).length c2) (T1.next K2) (T2.next K2) (by omega) (hr1.next hb2 (by have:=K1.size; omega)) hr2 (fK hb0 K2 (by omega)) (Nat.le_refl _) (by omega)
     | exact F9 (sg (zv s ns)) (sg (zv s' ms)) (.slice A1 (mg (zv s ns)).length c1) (.slice A2 (mg (zv s' ms)).length c2) (T1.next K1) (T2.next K1) (by omega) hr1 (hr2.next hb1 (by have:=K2.size; omega)) (fK hb0 K1 (by omega)) (Nat.le_refl _) (by omega)
   clear d10 d11 g10 g11 d20 d21 g20 g21 i10 i11 i20 i21 j10 j11 j20 j21 c10 c11 c20 c21 f10 f11 f20 f21
   go_wp2_with fail
   go_meet
   have Rh:=(T3.next K1)
   have Ri:=(T3.next K2)
   have N11:=(T4.next K1)
   have N12:=(T4.next K2)
   exact ⟨A1,c1,A2,c2,P1,P2,by first | exact Ri.D9 (by omega) (by omega) _ _ _ _ | exact Rh.D9 (by omega) (by omega) _ _ _ _,by first | exact N12.D9 (by omega) (by omega) _ _ _ _ | exact N11.D9 (by omega) (by omega) _ _ _ _,P3,P4,P5,hc1,hc2⟩
 case rest =>
  obtain ⟨A1,c1,A2,c2,Q1,Q2,Q3,Q4,r1,r2,hbc,hc1,hc2⟩:=hcut
  clear T1 T2 T3 T4 R1 R2 hb0 l3 c10 c11 c20 c21 f10 f11 f20 f21
  obtain ⟨c10,c11,f10,f11⟩:=Q1.facts
  obtain ⟨c20,c21,f20,f21⟩:=Q2.facts
  have hbq:(((mg (zv s' ms)).length:Int)==0)=false:=by
   rw [beq_eq_false_iff_ne]
   intro e
   exact HNZ.out (PX.1 (by omega))
  go_wp2_with fail
  refine (Ux A1 A2 (zv s ns).natAbs (zv s' ms).natAbs _ _ c1 c2 B B' _ r1 r2 (by have:=hbc.size; omega) (by have:=hbc.size; omega) rfl rfl (Nat.le_trans hlz hl) (Nat.le_trans hlz' hl') hc1 hc2 (by have:=HNZ.out; omega) (HLH.out.imp (fun h=>Nat.le_trans hlz h) id)).mono ?_
  rintro e w3 ⟨A3,c3,A4,c4,rfl,hc3,hc4,hr3,hr4,hb3⟩
  have HE:=Lib.hid (amJ (z:=zv s ns) HNZ.out)
  have hQb:=afl s ns
  have azo:(bg ((zv s ns).natAbs / (zv s' ms).natAbs)).length≤n:=Nat.le_trans (xQ (Nat.lt_of_le_of_lt (Nat.le_trans (Nat.div_le_self _ _) hQb) (sW h.gW))) (by rw [hn]; exact Nat.le_refl _)
  have U1:=Q1.next hb3
  have U2:=Q2.next hb3
  have U3:=Q3.next hb3
  have U4:=Q4.next hb3
  have r2':=r2.next hb3 (by have:=hbc.size; omega)
  have hb4:=fK hbc hb3 (Nat.le_refl _)
  obtain ⟨d10,d11,g10,g11⟩:=U1.facts
  obtain ⟨d20,d21,g20,g21⟩:=U2.facts
  obtain ⟨d30,d31,EL,g31⟩:=U3.facts
  obtain ⟨d40,d41,g40,g41⟩:=U4.facts
  obtain ⟨Q,hQ⟩ : ∃ Q,Q=(zv s ns).natAbs / (zv s' ms).natAbs:=⟨_,rfl⟩
  obtain ⟨R,hR⟩ : ∃ R,R=(zv s ns).natAbs % (zv s' ms).natAbs:=⟨_,rfl⟩
  rw [← hQ] at hr3 hc3 azo HE ⊢
  rw [← hR] at hr4 hc4 HE ⊢
  clear hQ hR hQb c10 c11 c20 c21 f10 f11 f20 f21
  cases hsn:sg (zv s ns)
  ·have HF:Hid (zv s ns / zv s' ms=(if sg (zv s' ms)=true then -(Q:Int) else (Q:Int))∧zv s ns % zv s' ms=if false=true then -(R:Int) else (R:Int)):=Lib.hid (by obtain ⟨_,_,h3⟩:=HE.out; obtain ⟨h4,h5⟩:=h3 (.inl hsn); rw [hsn,Bool.false_bne] at h4; exact ⟨h4,h5⟩)
   clear HE
   go_wp2_with fail
   refine (Eh (sg (zv s' ms)) A3 (Q) _ c3 _ (zv s ns / zv s' ms) _ hr3 (Nat.le_refl _) rfl hc3 HF.out.1).mono ?_
   rintro e w6 ⟨A6,c6,rfl,hc6,I9,hb6⟩
   have V3:=(U3).next hb6
   have V4:=(U4).next hb6
   have rr:=(hr4).next hb6 (Nat.le_refl _)
   go_wp2_with fail
   refine (Eh false A4 (R) _ c4 _ (zv s ns % zv s' ms) _ rr (Nat.le_trans (Nat.le_refl _) hb6.size) rfl hc4 HF.out.2).mono ?_
   rintro e w7 ⟨A7,c7,rfl,PG,PN,hb7⟩
   have X3:=V3.next hb7
   have X4:=V4.next hb7
   obtain ⟨k30,k31,l30,l31⟩:=X3.facts
   obtain ⟨Yp,Yq,l40,l41⟩:=X4.facts
   have hb8:=fK (fK hb4 hb6 (by have:=hb4.size; omega)) hb7 (by have:=hb4.size; have:=hb6.size; omega)
   have Yf:=(I9.next hb7 hb6.size)
   go_wp2_with fail
   refine bodyPost_ret (v := .tuple #[.agg #[.bool (sg (zv s ns / zv s' ms)),.slice A6 (mg (zv s ns / zv s' ms)).length c6],.agg #[.bool (sg (zv s ns % zv s' ms)),.slice A7 (mg (zv s ns % zv s' ms)).length c7],.nilIface]) (by simp [results,Tryz.results155,go_sem,k30,k31,Yp,Yq]) rfl ?_
   have P3:=X3.put (.bool (sg (zv s ns / zv s' ms))) (.slice A6 (mg (zv s ns / zv s' ms)).length c6)
   have P4:=(X4.far (p:=⟨w.heap.size+1+1,0,none⟩) (by simp) (.bool (sg (zv s ns / zv s' ms)))).far (p:=⟨w.heap.size+1+1,1,none⟩) (by simp) (.slice A6 (mg (zv s ns / zv s' ms)).length c6)
   exact ⟨A6,c6,A7,c7,rfl,hc6,PG,((Yf.yF X3 _ _).yF P4 _ _).more (by simp; exact Nat.le_trans hb6.size hb7.size),((PN.yF X3 _ _).yF P4 _ _).more (by simp; exact Nat.le_trans (Nat.le_trans (Nat.le_refl _) hb6.size) hb7.size),(((hb8.setCell (by simp; omega) _).setCell (by simp; omega) _).setCell (by simp; omega) _).setCell (by simp; omega) _⟩
  ·by_cases hR0:R=0
   ·have HF:Hid (zv s ns / zv s' ms=(if (!sg (zv s' ms))=true then -(Q:Int) else (Q:Int))∧zv s ns % zv s' ms=if false=true then -(R:Int) else (R:Int)):=Lib.hid (by obtain ⟨_,_,h3⟩:=HE.out; obtain ⟨h4,h5⟩:=h3 (.inr hR0); rw [hsn,Bool.true_bne] at h4; exact ⟨h4,h5⟩)
    have hl0:Hid ((bg R).length=0):=Lib.hid (by rw [hR0]; rfl)
    have hbr:(0 < (bg R).length)=False:=eq_false (by rw [hl0.out]; omega)
    clear hR0 HE
    go_wp2_with fail
    refine (Eh (!sg (zv s' ms)) A3 (Q) _ c3 _ (zv s ns / zv s' ms) _ hr3 (Nat.le_refl _) rfl hc3 HF.out.1).mono ?_
    rintro e w6 ⟨A6,c6,rfl,hc6,I9,hb6⟩
    have V3:=(U3).next hb6
    have V4:=(U4).next hb6
    have rr:=(hr4).next hb6 (Nat.le_refl _)
    go_wp2_with fail
    refine (Eh false A4 (R) _ c4 _ (zv s ns % zv s' ms) _ rr (Nat.le_trans (Nat.le_refl _) hb6.size) rfl hc4 HF.out.2).mono ?_
    rintro e w7 ⟨A7,c7,rfl,PG,PN,hb7⟩
    have X3:=V3.next hb7
    have X4:=V4.next hb7
    obtain ⟨k30,k31,l30,l31⟩:=X3.facts
    obtain ⟨Yp,Yq,l40,l41⟩:=X4.facts
    have hb8:=fK (fK hb4 hb6 (by have:=hb4.size; omega)) hb7 (by have:=hb4.size; have:=hb6.size; omega)
    have Yf:=(I9.next hb7 hb6.size)
    go_wp2_with fail
    refine bodyPost_ret (v := .tuple #[.agg #[.bool (sg (zv s ns / zv s' ms)),.slice A6 (mg (zv s ns / zv s' ms)).length c6],.agg #[.bool (sg (zv s ns % zv s' ms)),.slice A7 (mg (zv s ns % zv s' ms)).length c7],.nilIface]) (by simp [results,Tryz.results155,go_sem,k30,k31,Yp,Yq]) rfl ?_
    have P3:=X3.put (.bool (sg (zv s ns / zv s' ms))) (.slice A6 (mg (zv s ns / zv s' ms)).length c6)
    have P4:=(X4.far (p:=⟨w.heap.size+1+1,0,none⟩) (by simp) (.bool (sg (zv s ns / zv s' ms)))).far (p:=⟨w.heap.size+1+1,1,none⟩) (by simp) (.slice A6 (mg (zv s ns / zv s' ms)).length c6)
    exact ⟨A6,c6,A7,c7,rfl,hc6,PG,((Yf.yF X3 _ _).yF P4 _ _).more (by simp; exact Nat.le_trans hb6.size hb7.size),((PN.yF X3 _ _).yF P4 _ _).more (by simp; exact Nat.le_trans (Nat.le_trans (Nat.le_refl _) hb6.size) hb7.size),(((hb8.setCell (by simp; omega) _).setCell (by simp; omega) _).setCell (by simp; omega) _).setCell (by simp; omega) _⟩
   ·have HF:Hid (zv s ns / zv s' ms=(if (!sg (zv s' ms))=true then -((Q+1:Nat):Int) else ((Q+1:Nat):Int))∧zv s ns % zv s' ms=if false=true then -(((zv s' ms).natAbs - R:Nat):Int) else (((zv s' ms).natAbs - R:Nat):Int)):=Lib.hid (by obtain ⟨_,h3,_⟩:=HE.out; obtain ⟨h4,h5⟩:=h3 hsn hR0; rw [hsn,Bool.true_bne] at h4; exact ⟨h4,h5⟩)
    have ahA:=HE.out.1
    have hbr:0 < (bg R).length:=by
     rcases Nat.eq_zero_or_pos (bg R).length with h0 | h0
     ·exact absurd (xP.1 (List.eq_nil_of_length_eq_zero h0)) hR0
     ·omega
    have Nj:=Lib.hid ahA
    have vQ:=Lib.hid (fA Q)
    have vR:=Lib.hid (fA R)
    have UI:(bg R).length≤m:=Nat.le_trans (xQ (Nat.lt_of_lt_of_le ahA (Nat.le_trans (afl s' ms) (Nat.le_of_lt (sW h'.gW))))) (by rw [hm]; exact Nat.le_refl _)
    clear hR0 HE ahA
    have hone:=axu w3 99
    have acV:=hb4.size
    go_wp2_with fail
    refine (add_any A3 (some ⟨w3.heap.size,0,none⟩) (bg Q) [1] _ 1 c3 1 w3.heap.size _ _ (hr3.alloc (Nat.le_refl _) _) (hone.rd aHt) (by simp) (Nat.le_refl _) rfl rfl (by omega) (by omega) hc3 (by omega)).mono ?_
    rintro e w4 ⟨A5,c5,rfl,hc5,yj,hb5⟩
    rw [vQ.out,show val [1]=1 from rfl] at yj hc5 ⊢
    have NT:=fK ((Below.refl w3.heap.size w3).alloc (Nat.le_refl _) (.cells #[.int .u32 1] 99)) hb5 (by simp)
    have Z2:=U2.next NT
    obtain ⟨i20,i21,j20,j21⟩:=Z2.facts
    have hsz5:=NT.size
    go_wp2_with fail
    refine (ajF A2 A4 (mg (zv s' ms)) (bg R) _ _ c2 c4 B' w3.heap.size _ (r2'.next NT (by omega)) (hr4.next NT (Nat.le_refl _)) (by omega) (by omega) rfl rfl (by omega) (by omega) (by rw [vV,vR.out]; exact Nat.le_of_lt Nj.out)).mono ?_
    rintro e w5 ⟨A8,c8,rfl,hc8,EM,NU⟩
    rw [vV,vR.out] at EM hc8 ⊢
    have Y3:=(U3.next NT).next NU
    have Y4:=(U4.next NT).next NU
    have azR:=yj.next NU (Nat.le_refl _)
    obtain ⟨o10,o11,p10,p11⟩:=((U1.next NT).next NU).facts
    obtain ⟨o20,o21,p20,p21⟩:=((U2.next NT).next NU).facts
    have ahH:=fK (fK hb4 NT (by omega)) NU (by omega)
    go_wp2_with fail
    refine (Eh (!sg (zv s' ms)) A5 (Q+1) _ c5 _ (zv s ns / zv s' ms) _ azR (by have:=hb5.size; have:=NU.size; omega) rfl hc5 HF.out.1).mono ?_
    rintro e w6 ⟨A6,c6,rfl,hc6,I9,hb6⟩
    have V3:=(Y3).next hb6
    have V4:=(Y4).next hb6
    have rr:=(EM).next hb6 (Nat.le_refl _)
    go_wp2_with fail
    refine (Eh false A8 ((zv s' ms).natAbs - R) _ c8 _ (zv s ns % zv s' ms) _ rr (Nat.le_trans (Nat.le_refl _) hb6.size) rfl hc8 HF.out.2).mono ?_
    rintro e w7 ⟨A7,c7,rfl,PG,PN,hb7⟩
    have X3:=V3.next hb7
    have X4:=V4.next hb7
    obtain ⟨k30,k31,l30,l31⟩:=X3.facts
    obtain ⟨Yp,Yq,l40,l41⟩:=X4.facts
    have hb8:=fK (fK ahH hb6 (by have:=ahH.size; omega)) hb7 (by have:=ahH.size; have:=hb6.size; omega)
    have Yf:=(I9.next hb7 (by have:=hb5.size; have:=NU.size; have:=hb6.size; omega))
    go_wp2_with fail
    refine bodyPost_ret (v := .tuple #[.agg #[.bool (sg (zv s ns / zv s' ms)),.slice A6 (mg (zv s ns / zv s' ms)).length c6],.agg #[.bool (sg (zv s ns % zv s' ms)),.slice A7 (mg (zv s ns % zv s' ms)).length c7],.nilIface]) (by simp [results,Tryz.results155,go_sem,k30,k31,Yp,Yq]) rfl ?_
    have P3:=X3.put (.bool (sg (zv s ns / zv s' ms))) (.slice A6 (mg (zv s ns / zv s' ms)).length c6)
    have P4:=(X4.far (p:=⟨w.heap.size+1+1,0,none⟩) (by simp) (.bool (sg (zv s ns / zv s' ms)))).far (p:=⟨w.heap.size+1+1,1,none⟩) (by simp) (.slice A6 (mg (zv s ns / zv s' ms)).length c6)
    exact ⟨A6,c6,A7,c7,rfl,hc6,PG,((Yf.yF X3 _ _).yF P4 _ _).more (by simp; exact Nat.le_trans (by have:=hb5.size; have:=NU.size; have:=hb6.size; omega) hb7.size),((PN.yF X3 _ _).yF P4 _ _).more (by simp; exact Nat.le_trans (Nat.le_trans (Nat.le_refl _) hb6.size) hb7.size),(((hb8.setCell (by simp; omega) _).setCell (by simp; omega) _).setCell (by simp; omega) _).setCell (by simp; omega) _⟩
end Go.Proofs.YtbihljnjaondcaaGreatDoor
