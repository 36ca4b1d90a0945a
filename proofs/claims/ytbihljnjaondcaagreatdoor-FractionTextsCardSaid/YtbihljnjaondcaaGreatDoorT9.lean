/- Part of a proof, said shortly. -/
import Derived.Deep.LoopGhost
import Derived.Laws.IdiomStrings
import Derived.Lib.BufferRead
import Derived.Test.YtbihljnjaondcaaGreatDoorAlt
import Derived.Test.YtbihljnjaondcaaGreatDoorT8
import Derived.Test.YtbihljnjaondcaaGreatDoorT6
import Derived.Test.YtbihljnjaondcaaGreatDoorT4
import Derived.Test.YtbihljnjaondcaaGreatDoorT3
import Derived.Test.YtbihljnjaondcaaGreatDoorT2
import Derived.Test.YtbihljnjaondcaaGreatDoorT1
import Derived.Test.YtbihljnjaondcaaGreatDoorT5
import Derived.Test.YtbihljnjaondcaaGreatDoorT7
namespace Lw
open Go Go.RowKit
def atb:Nat→Nat→List UInt8
 | 0,_=>[]
 | k+1,g=>atb k (g / 10)++[UInt8.ofNat (48+g % 10)]
theorem bhV (k q g:Nat) (hq:0 < q) (hg:g < 10 ^ k):Lib.decDigits (q*10 ^ k+g)=Lib.decDigits q++atb k g:=by
 induction k generalizing g with
 | zero =>
  have:g=0:=by simpa using hg
  subst this
  simp [atb]
 | succ k ih =>
  have hp:q*10 ^ (k+1)=q*10 ^ k*10:=by rw [Nat.pow_succ,Nat.mul_assoc]
  have h1:1≤q*10 ^ k:=Nat.mul_pos hq (Nat.pow_pos (by omega))
  rw [Lib.decDigits,dif_neg (by rw [hp]; omega),show (q*10 ^ (k+1)+g) / 10=q*10 ^ k+g / 10 by rw [hp]; omega,show (q*10 ^ (k+1)+g) % 10=g % 10 by rw [hp]; omega,
   ih (g / 10) (by rw [Nat.pow_succ] at hg; omega),atb,List.append_assoc]
def tl (gs:List Nat):List UInt8:=(gs.reverse.map (atb 9)).flatten
theorem bfx:tl []=[]:=rfl
theorem boh (gs:List Nat) (g:Nat):tl (gs++[g])=atb 9 g++tl gs:=by simp [tl]
theorem bof (gs:List Nat) (g:Nat):tl (g :: gs)=tl gs++atb 9 g:=by simp [tl]
theorem byteCells_snoc (l:List UInt8) (b:UInt8):Lib.byteCells (l++[b])=Lib.byteCells l++[.int .u8 (b.toNat:Int)]:=by simp [Lib.byteCells]
theorem a4m {d:Nat} (h:d < 10):((UInt8.ofNat (48+d)).toNat:Int)=48+(d:Int):=by
 have:(UInt8.ofNat (48+d)).toNat=48+d:=by
  rw [UInt8.toNat_ofNat']; omega
 omega
def a5n (i u:Nat):Prop:=(i≤8∧u=10 ^ (8 - i))∨(i=9∧u=0)
theorem boE:a5n 0 100000000 := .inl ⟨by omega,by rfl⟩
theorem boD {i:Nat} (h:a5n i 0):i=9:=by
 rcases h with ⟨h,h1⟩ | ⟨h,_⟩
 ·have:0 < 10 ^ (8 - i):=Nat.pow_pos (by omega)
  omega
 ·exact h
theorem boF {i u:Nat} (h:a5n i u) (hu:u≠0):a5n (i+1) (u / 10)∧i≤8:=by
 rcases h with ⟨h,h1⟩ | ⟨h,h1⟩
 ·refine ⟨?_,h⟩
  rcases Nat.lt_or_ge i 8 with h2 | h2
  ·left
   refine ⟨by omega,?_⟩
   rw [h1,show 8 - i=(8 - (i+1))+1 by omega,Nat.pow_succ,Nat.mul_div_cancel _ (by omega)]
  ·obtain rfl:i=8:=by omega
   right
   exact ⟨rfl,by rw [h1]⟩
 ·exact absurd h1 hu
theorem blv {i u g:Nat} (h:a5n i u) (hu:u≠0):atb (i+1) (g / 10 ^ (9 - (i+1)))=atb i (g / 10 ^ (9 - i))++[UInt8.ofNat (48+g / u % 10)]:=by
 rcases h with ⟨h,h1⟩ | ⟨h,h1⟩
 ·rw [atb,show 9 - (i+1)=8 - i by omega,← h1,Nat.div_div_eq_div_mul,h1,show 9 - i=(8 - i)+1 by omega,Nat.pow_succ]
 ·exact absurd h1 hu
theorem bls {g:Nat} : atb 9 (g / 10 ^ (9 - 9))=atb 9 g:=by simp
theorem blu {g:Nat} : atb 0 (g / 10 ^ (9 - 0))=[]:=rfl
end Lw
namespace Go.Proofs.YtbihljnjaondcaaGreatDoor
open Go Go.RowKit Lw
theorem bdx:(Tryz.prog.info? 5).map (fun i=>(i.zero,i.size,i.bytes))=some (some (.int .u8 0),1,1):=by kernel_rfl
set_option maxRecDepth 100000 in
set_option maxHeartbeats 1600000 in
theorem bg7 (Bt g:Nat) (l:List UInt8) (v:Value) (n:Nat) (w:World) (hown:w.ownsRow Bt 5 1 v n (Lib.byteCells l)) (hB:Bt≤w.heap.size) (hn:n≤1099511627776) (hg:g≤4294967295) :
  Calls Tryz.prog 205 #[v,.int .u32 g] w fun e w' => ∃ v',e = .returned v'∧w'.ownsRow Bt 5 1 v' (n+9) (Lib.byteCells (l++atb 9 g))∧Below Bt w w'∧Lib.OthersKept 5 none w w':=by
 obtain ⟨i0,hi0,hz0,hz1,hz2⟩:=info_parts bdx
 go_enter Tryz.func205,Tryz.ntmps205
 go_wp2_with fail
 go_loopw [0,5] (fun tv uv wr => ∃ (i u:Nat),i≤9∧u≤100000000∧uv = .int .u32 u∧Hid (a5n i u)∧wr.ownsRow Bt 5 1 tv (n+i) (Lib.byteCells (l++atb i (g / 10 ^ (9 - i))))∧Below Bt w wr∧Lib.OthersKept 5 none w wr) (fun _ uv _=>(intOf uv).toNat)
 case atStart=>exact ⟨0,100000000,by omega,by omega,rfl,Lib.hid boE,by rw [blu,List.append_nil]; exact hown,Below.refl _ _,Lib.OthersKept.refl _ _ _⟩
 case round =>
  obtain ⟨i,u,hi,hu,rfl,hun,hown1,hb1,hk1⟩:=hrel
  clear hown
  by_cases h0:u=0
  ·subst h0
   have h9:=boD hun.out
   subst h9
   rw [bls] at hown1
   go_wp2_with fail
   go_ret
   exact ⟨_,rfl,hown1,hb1,hk1⟩
  ·have hst:=boF hun.out h0
   have HS:=Lib.hid hst.1
   have HP:=Lib.hid (blv (g:=g) hun.out h0)
   have hi8:=hst.2
   have hu1:1≤u:=by omega
   have hq:IntKind.u32.wrap ((g:Int) / (u:Int))=((g / u:Nat):Int):=by
    rw [← Int.natCast_ediv]
    exact IntWalk.u32_in _ (by have:=Nat.div_le_self g u; generalize g / u=Q at *; omega)
   have hql:g / u≤4294967295:=Nat.le_trans (Nat.div_le_self g u) hg
   clear hst h0 hun
   obtain ⟨Q,hQ⟩ : ∃ Q,Q=g / u:=⟨_,rfl⟩
   rw [← hQ] at hq hql HP
   clear hQ
   have hsz1:=hb1.size
   go_wp2_with (at_builtin; refine wpList_append_own _ rfl _ _ 122 rfl Bt 5 i0 _ 1 1 Tryz.underlying122 hi0 hz0 hz1 hz2 rfl (by decide) _ (n+i) _ rfl (hown1.alloc _) ⟨wr.heap.size,0,none⟩ 1 1 [.int .u8 (48+(Q:Int) % 10)] rfl rfl (World.news_of_block (cs := #[.int .u8 (48+(Q:Int) % 10)]) (t:=5) (fr:=(0,0)) (heap_alloc_new wr _)) (by simp [Value.oneCell']) (by unfold maxLen; omega) (by omega) (by simp; omega) ?_; intro v' w1 hown2 hgrow2 hnil)
   have hgrow:(wr.alloc (.cells #[.int .u8 (48+(Q:Int) % 10)] 5)).grownBy w1 u0.ownBlock:=hgrow2
   have hd:=a4m (d:=Q % 10) (Nat.mod_lt _ (by omega))
   have HD:Hid ([Value.int .u8 (48+(Q:Int) % 10)]=[Value.int .u8 ((UInt8.ofNat (48+Q % 10)).toNat:Int)]):=Lib.hid (by rw [hd]; simp)
   clear hgrow2 hnil hd
   go_roundw
   case rel =>
    refine ⟨i+1,u / 10,by omega,by omega,by go_num,HS,?_,(hb1.alloc (by omega) _).grown hgrow (by simp; omega) (fun k hk=>(hown1.lt k hk).1),(hk1.alloc _).grown hgrow (Lib.ownsRow_kind (hown1.alloc _))⟩
    rw [HP.out,← List.append_assoc,byteCells_snoc,← HD.out]
    exact hown2
   case measure=>simp [intOf]; omega
end Go.Proofs.YtbihljnjaondcaaGreatDoor
namespace Lw
open Go Go.RowKit
def Parts (N M:Nat) (gs:List Nat):Prop:=Lib.decDigits N=Lib.decDigits M++tl gs∧M*2 ^ gs.length≤N∧(∀ x∈gs,x≤999999999)
theorem blB (N:Nat):Parts N N []:=⟨by simp [bfx],by simp,fun x h=>by cases h⟩
theorem blC {N M:Nat} {gs:List Nat} (h:Parts N M gs) (hM:4294967296≤M):Parts N (M / 1000000000) (gs++[M % 1000000000])∧1≤M / 1000000000∧M / 1000000000 < M:=by
 refine ⟨⟨?_,?_,?_⟩,by omega,by omega⟩
 ·rw [h.1,boh,← List.append_assoc]
  congr 1
  have:=bhV 9 (M / 1000000000) (M % 1000000000) (by omega) (by simp only [Nat.reducePow]; omega)
  rw [← this]
  congr 1
  simp only [Nat.reducePow]; omega
 ·rw [List.length_append,List.length_singleton,Nat.pow_succ]
  have h1:M / 1000000000*(2 ^ gs.length*2)=(M / 1000000000*2)*2 ^ gs.length:=by grind
  rw [h1]
  exact Nat.le_trans (Nat.mul_le_mul_right _ (by omega)) h.2.1
 ·intro x hx
  rw [List.mem_append,List.mem_singleton] at hx
  rcases hx with hx | hx
  ·exact h.2.2 x hx
  ·omega
theorem blQ (n:Nat):pw n=2 ^ (32*n):=by unfold pw; rw [Nat.pow_mul]
theorem bef {N M n:Nat} {gs:List Nat} (h:Parts N M gs) (hM:1≤M) (hN:N < pw n):gs.length < 32*n:=by
 rw [blQ] at hN
 have h1:=Nat.mul_le_mul_right (2 ^ gs.length) hM
 have h2:2 ^ gs.length < 2 ^ (32*n):=by have:=h.2.1; omega
 exact (Nat.pow_lt_pow_iff_right (by omega)).1 h2
theorem blD {N M:Nat} {gs:List Nat} (h:Parts N M gs):Wds gs:=fun x hx=>by have:=h.2.2 x hx; omega
theorem byteCells_append (a b:List UInt8):Lib.byteCells (a++b)=Lib.byteCells a++Lib.byteCells b:=by simp [Lib.byteCells]
theorem bog (gs:List Nat) {j:Nat} (h:j < gs.length):tl (gs.drop j)=tl (gs.drop (j+1))++atb 9 (dg gs j):=by
 rw [List.drop_eq_getElem_cons h,bof,a1p h]
theorem baC {w:World} {base:Nat} {e:TypeId} {v:Value} {n:Nat} {ns:List Nat} (h:w.ownsRow base e 1 v n (arr ns)) (hw:Wds ns) : ∃ A c,v = .slice A n c∧Rd w w.heap.size A ns∧ns.length=n:=by
 have hl:=h.1
 rw [atC,Nat.mul_one] at hl
 by_cases hv:v = .slice none 0 0
 ·subst hv
  have:n=0:=by
   rcases h.2 with ⟨_,h0⟩ | ⟨g,cap,cur,hv',_⟩
   ·exact h0
   ·cases hv'
  subst this
  exact ⟨none,0,rfl,by rw [List.eq_nil_of_length_eq_zero hl]; exact Rd.nil_ _ _ _,hl⟩
 ·obtain ⟨g,c,rfl,_,_,hb⟩:=a7p h hv
  exact ⟨_,c,rfl,hb.rd hw,hl⟩
theorem own_below {w w':World} {base:Nat} {e:TypeId} {size:Nat} {v:Value} {n:Nat} {xs:List Value} (h:w.ownsRow base e size v n xs) (hb:Below w.heap.size w w'):w'.ownsRow base e size v n xs :=
 h.kept (row:=none) ⟨hb.os,hb.tape,hb.output,hb.size,fun k hk _=>hb.block k hk⟩ (by
  rcases h.2 with ⟨rfl,_⟩ | ⟨g,cap,cur,rfl,_⟩
  ·exact .inl rfl
  ·exact .inr (by simp [Value.ownBlock]))
theorem blr {w w':World} {base g:Nat} {e:TypeId} {size:Nat} {v:Value} {n:Nat} {xs:List Value} (h:w.ownsRow base e size v n xs) (hg:w.grownBy w' (some g)) (hlt:g < base):w'.ownsRow base e size v n xs :=
 h.kept hg (by
  rcases h.2 with ⟨rfl,_⟩ | ⟨g',cap,cur,rfl,hb,_⟩
  ·exact .inl rfl
  ·exact .inr (by simp [Value.ownBlock]; omega))
theorem bhh {w w':World} {base g:Nat} {t e:TypeId} {size:Nat} {v:Value} {n:Nat} {xs:List Value} {ns:List Nat} (h:Blk w g t ns) (ho:w.ownsRow base e size v n xs) (hg:w.grownBy w' v.ownBlock) (hlt:g < base):Blk w' g t ns :=
 h.of_same (hg.block g h.lt (fun e=>by have:=(ho.lt g e.symm).1; omega))
theorem bhZ {M m:Nat} (h:(Uy M).length=m) (hm:m≤1):dg (Uy M) 0=M:=by
 have e1:=acm (l:=Uy M) (k:=1) (by omega)
 rw [acw,akf,aNP,aar] at e1
 omega
theorem bop {M m:Nat} (h:(Uy M).length=m) (hm:1 < m):4294967296≤M:=by
 have:=a4W (aj7 M) (by intro e; rw [e] at h; simp at h; omega)
 rw [aar] at this
 have h2:pw 1≤pw ((Uy M).length - 1):=ajj (by omega)
 have h3:pw 1=4294967296:=rfl
 omega
theorem a7q (k u:Nat) (h:u < 10 ^ (k+1)):(Lib.decDigits u).length≤k+1:=by
 induction k generalizing u with
 | zero=>rw [Lib.decDigits,dif_pos (by simpa using h)]; simp
 | succ k ih =>
  rw [Lib.decDigits]
  by_cases h1:u < 10
  ·rw [dif_pos h1]; simp
  ·rw [dif_neg h1,List.length_append]
   have:=ih (u / 10) (by rw [Nat.pow_succ] at h; omega)
   simp only [List.length_singleton]; omega
def Gr (t:TypeId) (w:World) (A:Option Addr) (gs:List Nat):Prop:=gs=[] ∨ ∃ g,A=some ⟨g,0,none⟩∧Blk w g t gs
theorem Gr.rd {t:TypeId} {w:World} {A:Option Addr} {gs:List Nat} (h:Gr t w A gs) (hw:Wds gs):Rd w w.heap.size A gs:=by
 rcases h with rfl | ⟨g,rfl,h⟩
 ·exact Rd.nil_ _ _ _
 ·exact h.rd hw
theorem Gr.others {t e:TypeId} {w w':World} {A:Option Addr} {gs:List Nat} (h:Gr t w A gs) (hk:Lib.OthersKept e none w w') (ht:t≠e):Gr t w' A gs:=by
 rcases h with rfl | ⟨g,rfl,rest,h⟩
 ·exact .inl rfl
 ·exact .inr ⟨g,rfl,rest,hk g _ h (by simp) (fun c fz e=>by cases e; exact ht rfl)⟩
theorem Gr.drewN {t:TypeId} {w:World} {A:Option Addr} {gs:List Nat} (h:Gr t w A gs) (k:Nat):Gr t (w.drewN k) A gs:=h
theorem blq {w:World} {base:Nat} {e:TypeId} {v:Value} {n:Nat} {ns:List Nat} (h:w.ownsRow base e 1 v n (arr ns)) : ∃ A c,v = .slice A n c∧Gr e w A ns:=by
 by_cases hv:v = .slice none 0 0
 ·subst hv
  have:n=0:=by
   rcases h.2 with ⟨_,h0⟩ | ⟨g,cap,cur,hv',_⟩
   ·exact h0
   ·cases hv'
  subst this
  have hl:=h.1
  rw [atC,Nat.mul_one] at hl
  exact ⟨none,0,rfl,.inl (List.eq_nil_of_length_eq_zero hl)⟩
 ·obtain ⟨g,c,rfl,_,_,hb⟩:=a7p h hv
  exact ⟨_,c,rfl,.inr ⟨g,rfl,hb⟩⟩
end Lw
namespace Go.Proofs.YtbihljnjaondcaaGreatDoor
open Go Go.RowKit Lw
def Tab (w:World):Prop:=Lib.TabIs Tryz.prog w "internal/strconv.uint64pow10" .u64 Lib.pow10Tab
theorem Tab.next {w w':World} (h:Tab w) (hb:Below w.heap.size w w'):Tab w':=Lib.tabBelow_of_tabIs h w' hb
theorem bg8 (B n u:Nat) (hu:u < 18446744073709551616) (sv:Value) (xs:List Value) (w:World) (hown:w.ownsRow B 5 1 sv n xs) (hBw:B≤w.heap.size) (hlim:n≤1099511627776) (ht:Tab w) :
  Calls Tryz.prog 230 #[sv,.int .u64 u,.int .i64 10] w fun e w' => ∃ v',e = .returned v'∧w'.ownsRow B 5 1 v' (n+(Lib.decDigits u).length) (xs++Lib.byteCells (Lib.decDigits u))∧Below B w w'∧Lib.OthersKept 5 none w w':=by
 rcases Nat.lt_or_ge u 100 with h | h
 ·exact Tryz.internal_strconv_AppendUint_10_small B n u h sv xs w hown hBw (by omega)
 ·exact Tryz.internal_strconv_AppendUint_10_big B n u h hu sv xs w hown hBw (by omega) ht
theorem bpe (B n u:Nat) (hu:u < 18446744073709551616) (sv:Value) (xs:List Value) (w:World) (hown:w.ownsRow B 5 1 sv n xs) (hBw:B≤w.heap.size) (hlim:n≤1099511627776) (ht:Tab w) :
  Calls Tryz.prog 203 #[sv,.int .u64 u,.int .i64 10] w fun e w' => ∃ v',e = .returned v'∧w'.ownsRow B 5 1 v' (n+(Lib.decDigits u).length) (xs++Lib.byteCells (Lib.decDigits u))∧Below B w w'∧Lib.OthersKept 5 none w w':=by
 go_enter Tryz.func203,Tryz.ntmps203
 go_wp2_with fail
 refine (bg8 B n u hu sv xs w hown hBw hlim ht).mono ?_
 rintro e w1 ⟨v',rfl,h1,h2,h3⟩
 go_wp2_with fail
 go_ret
 exact ⟨_,rfl,h1,h2,h3⟩
set_option maxRecDepth 100000 in
set_option maxHeartbeats 3200000 in
theorem bbK (Bt N:Nat) (l:List UInt8) (v:Value) (nt:Nat) (A:Option Addr) (n c B:Nat) (w:World) (hown:w.ownsRow Bt 5 1 v nt (Lib.byteCells l)) (hBt:Bt≤w.heap.size) (hnt:nt≤65536)
  (h:Rd w B A (Uy N)) (hB:B≤w.heap.size) (hn:(Uy N).length=n) (hl:n≤8388608) (ht:Tab w) :
  Calls Tryz.prog 152 #[v,.slice A n c] w fun e w' => ∃ v' k,e = .returned v'∧w'.ownsRow Bt 5 1 v' k (Lib.byteCells (l++Lib.decDigits N))∧Below Bt w w':=by
 have Hn:=Lib.hid hn
 clear hn
 have HNp:Hid (N < pw n):=Lib.hid (by rw [← Hn.out]; exact awx (Nat.le_refl _))
 go_enter Tryz.func152,Tryz.ntmps152
 go_wp2_with fail
 refine (clone_any A (Uy N) _ _ B _ h hB Hn.out (by omega)).mono ?_
 rintro e w1 ⟨A1,c1,rfl,hc1,hg1,hr1,hb1⟩
 have ht1:=ht.next hb1
 have bbD:=Lib.hid hown
 have HT:=Lib.hid ht
 have hsz1:=hb1.size
 clear hown ht1 ht h
 go_wp2_with fail
 go_loopg [5,6] N (fun M gv rv wr => ∃ (gs:List Nat) (k:Nat) (A6:Option Addr) (m c6:Nat),rv = .slice A6 m c6∧m≤c6∧m≤n∧Hid ((Uy M).length=m)∧(0 < m → ∃ g,A6=some ⟨g,0,none⟩∧w.heap.size≤g∧g < w1.heap.size∧Blk wr g 99 (Uy M)) ∧
   wr.ownsRow w1.heap.size 99 1 gv k (arr gs)∧Hid (Parts N M gs)∧Hid (gs=[]∨1≤M)∧Below w.heap.size w wr∧w1.heap.size≤wr.heap.size)
 case atStart =>
  refine ⟨[],0,A1,n,c1,rfl,hc1,Nat.le_refl _,Hn,?_,World.ownsRow_nil _ _ _ _,Lib.hid (blB N),Lib.hid (.inl rfl),hb1,Nat.le_refl _⟩
  intro h0
  obtain ⟨g,h1,h2,h3⟩:=hg1 h0
  exact ⟨g,h1,h2,h3.lt,h3⟩
 case round =>
  obtain ⟨gs,k,A6,m,c6,rfl,hc6,hmn,hm,hblk6,a4F,hparts,hone,hbw,a96⟩:=hrel
  by_cases hm1:1 < m
  ·obtain ⟨g,rfl,hg0,hgl,hblk⟩:=hblk6 (by omega)
   have HM:=Lib.hid (bop hm.out hm1)
   have HS:=Lib.hid (blC hparts.out HM.out)
   have hk:=a4F.1
   rw [atC,Nat.mul_one] at hk
   have HK:=Lib.hid hk
   have hkl:k≤268435456:=by have:=bef hparts.out (by have:=HM.out; omega) HNp.out; omega
   clear hblk6 hk
   go_wp2_with fail
   refine (bcs g 1000000000 (Uy gk) _ c6 _ hblk (acy _) hm.out (by omega) (by omega) (by omega) (by omega)).mono ?_
   rintro e w3 ⟨ds,rfl,hblk3,hw3,hl3,hv3,hg3,hs3⟩
   rw [aar] at hv3 ⊢
   obtain ⟨R,hR⟩ : ∃ R,R=gk % 1000000000:=⟨_,rfl⟩
   rw [← hR] at HS ⊢
   have hRl:R≤999999999:=by omega
   clear hR
   obtain ⟨Q,hQ⟩ : ∃ Q,Q=gk / 1000000000:=⟨_,rfl⟩
   rw [← hQ] at HS hv3
   clear hQ
   have hb4:=below_of_grown hbw hg3 (by omega) hg0
   have a7I:=blr a4F hg3 hgl
   have HV3:=Lib.hid hv3
   have HL3:=Lib.hid hl3
   have hsz3:w1.heap.size≤w3.heap.size:=by omega
   clear hblk a4F hg3 hv3 hl3 hs3
   have a0Z:=(Blk.new w3 99 [R]).rd (by rw [alb]; exact ⟨by omega,ak5⟩)
   go_wp2_with (at_builtin; refine a7a _ rfl _ _ 22 rfl w1.heap.size 99 bsw ami _ k gs rfl (a7I.alloc _) _ _ [R] 1 1 rfl a0Z rfl (by omega) (by simp; omega) ?_; intro v' w4 hown4 hgrow4 hnil)
   have hgrow:(w3.alloc (.cells #[.int .u32 (R:Int)] 99)).grownBy w4 u5.ownBlock:=hgrow4
   have aNr:=bhh (hblk3.alloc (.cells #[.int .u32 (R:Int)] 99)) (a7I.alloc _) hgrow hgl
   have bdq:=hgrow.size
   have a7N:w1.heap.size≤w4.heap.size:=by simp at bdq; omega
   have hb5:Below w.heap.size w w4:=(hb4.alloc (by omega) _).grown hgrow (by simp; omega) (fun k hk=>by have:=(a7I.lt k hk).1; omega)
   have hr5:=aNr.rd hw3
   clear hgrow4 hnil a7I hgrow bdq a0Z
   refine (aOs _ ds _ c6 _ _ hr5 HL3.out hc6 (by omega)).mono ?_
   rintro e w5 ⟨rfl,rfl⟩
   rw [HV3.out]
   go_wp2_with fail
   go_roundg Q
   case measure=>exact HS.out.2.2
   case rel =>
    refine ⟨gs++[R],k+1,_,(Uy Q).length,c6,rfl,?_,?_,Lib.hid rfl,fun _=>⟨g,rfl,hg0,hgl,?_⟩,hown4,Lib.hid HS.out.1,Lib.hid (.inr HS.out.2.1),hb5,a7N⟩
    ·have:=aon hw3; rw [HV3.out,HL3.out] at this; omega
    ·have:=aon hw3; rw [HV3.out,HL3.out] at this; omega
    ·have:=aNr.Uy hw3; rw [HV3.out] at this; exact this
  ·have hr6:Rd wr wr.heap.size A6 (Uy gk):=by
    rcases Nat.eq_zero_or_pos m with h0 | h0
    ·have e0:Uy gk=[]:=List.eq_nil_of_length_eq_zero (by rw [hm.out]; exact h0)
     rw [e0]; exact Rd.nil_ _ _ _
    ·obtain ⟨g,rfl,_,_,hblk⟩:=hblk6 h0
     exact hblk.rd (acy _)
   have HD0:Hid (wd (Uy gk) 0=gk):=Lib.hid (by have:=as7 (Uy gk) 0; rw [bhZ hm.out (by omega)] at this; exact this)
   have hgk:gk < 4294967296:=by have:=a0t (acy gk) 0; rw [HD0.out] at this; exact this
   have hk:=a4F.1
   rw [atC,Nat.mul_one] at hk
   have hkl:k≤268435456:=by
    rcases hone.out with h0 | h0
    ·rw [h0] at hk; simp at hk; omega
    ·have:=bef hparts.out h0 HNp.out; omega
   have HK:=Lib.hid hk
   have hown5:=own_below bbD.out hbw
   have ht5:=HT.out.next hbw
   have bbE:=Lib.hid hown5
   have HT5:=Lib.hid ht5
   have bgd:=Lib.hid hparts.out.1
   have hgw:Wds gs:=blD hparts.out
   clear hblk6 hk hown5 ht5
   go_wp2_with fail
   refine (a0u A6 (Uy gk) _ c6 _ 0 _ hr6 hm.out (by omega)).mono ?_
   rintro e w3 ⟨rfl,rfl⟩
   rw [HD0.out]
   go_wp2_with fail
   have a7O:=hbw.size
   refine (bpe Bt nt gk (by omega) v _ _ bbE.out (by omega) (by omega) HT5.out).mono ?_
   rintro e w3 ⟨v3,rfl,hown3,hb3,hk3⟩
   have HDL:(Lib.decDigits gk).length≤10:=a7q 9 gk (by simp only [Nat.reduceAdd,Nat.reducePow]; omega)
   obtain ⟨D,hD⟩ : ∃ D,D=(Lib.decDigits gk).length:=⟨_,rfl⟩
   rw [← hD] at HDL hown3
   clear hD
   obtain ⟨A5,c5,rfl,hgr⟩:=blq a4F
   have bda:=hgr.others hk3 (by decide)
   have hb6:Below Bt w w3:=(hbw.mono hBt).trans hb3
   clear hgr a4F hk3 hb3 hb1 hr1 hg1 bbD bbE HT HT5 hr6
   rw [← byteCells_append] at hown3
   go_wp2_with fail
   go_loopw [0,7] (fun tv iv wr' => ∃ (i:Int) (q:Nat),-1≤i∧i < k∧iv = .int .i64 i∧(q:Int)+9*(i+1)=nt+D+9*k ∧
     wr'.ownsRow Bt 5 1 tv q (Lib.byteCells (l++Lib.decDigits gk++tl (gs.drop (i+1).toNat)))∧Below Bt w wr'∧Gr 99 wr' A5 gs) (fun _ iv _=>(intOf iv+1).toNat)
   case atStart =>
    refine ⟨(k:Int) - 1,nt+D,by omega,by omega,rfl,by omega,?_,?_,?_⟩
    ·rw [show ((k:Int) - 1+1).toNat=k by omega,List.drop_of_length_le (by rw [HK.out]; exact Nat.le_refl _),bfx,List.append_nil]
     exact hown3
    ·exact hb6
    ·exact bda
   case round =>
    obtain ⟨i,q,hi0,hi1,rfl,hq,hown4,hb7,bdb⟩:=hrel
    clear hown3 hb6 bda
    by_cases hi:0≤i
    ·obtain ⟨j,rfl⟩:=Int.eq_ofNat_of_zero_le hi
     rw [show ((j:Int)+1).toNat=j+1 by omega] at hown4
     obtain ⟨b,off,rfl,hb,hcell,hlt⟩:=(bdb.rd hgw).at_ (k:=j) (by rw [HK.out]; omega)
     have HTL:=Lib.hid (bog gs (j:=j) (by rw [HK.out]; omega))
     have bpX:=hb7.size
     obtain ⟨G,hG⟩ : ∃ G,G=dg gs j:=⟨_,rfl⟩
     rw [← hG] at HTL hcell hlt
     clear hG hi
     go_wp2_with fail
     refine (bg7 Bt G _ u0 q _ hown4 (by omega) (by omega) (by omega)).mono ?_
     rintro e w4 ⟨v4,rfl,hown5,hb8,hk8⟩
     go_wp2_with fail
     go_roundw
     case rel =>
      refine ⟨(j:Int) - 1,q+9,by omega,by omega,rfl,by omega,?_,hb7.trans hb8,bdb.others hk8 (by decide)⟩
      rw [show ((j:Int) - 1+1).toNat=j by omega,HTL.out,← List.append_assoc]
      exact hown5
     case measure=>simp [intOf]
    ·obtain rfl:i = -1:=by omega
     have HD:Hid (Lib.decDigits gk++tl (gs.drop (-1+1:Int).toNat)=Lib.decDigits N):=Lib.hid (by rw [bgd.out]; rfl)
     go_wp2_with fail
     go_ret
     refine ⟨u0,rfl,⟨q,?_⟩,hb7⟩
     rw [← HD.out,← List.append_assoc]
     exact hown4
end Go.Proofs.YtbihljnjaondcaaGreatDoor
namespace Lw
open Go Go.RowKit
theorem itoa_neg {z:Int} (h:sg z=true):Lib.itoa z=[45]++Lib.decDigits z.natAbs:=by
 have:=a5h h
 unfold Lib.itoa; rw [if_pos (by omega)]; rfl
theorem anm {z:Int} (h:sg z=false):Lib.itoa z=[]++Lib.decDigits z.natAbs:=by
 have:=a8q h
 unfold Lib.itoa; rw [if_neg (by omega),show z.toNat=z.natAbs by omega]; rfl
theorem a4l (u:Nat):0 < (Lib.decDigits u).length:=by
 rw [Lib.decDigits]
 by_cases h:u < 10
 ·rw [dif_pos h]; simp
 ·rw [dif_neg h]; simp
theorem bed {P:Program} {w:World} {base n:Nat} {e src dst:TypeId} {v:Value} {l:List UInt8} (h:w.ownsRow base e 1 v n (Lib.byteCells l)) (hl:0 < l.length)
  (hs:P.underlying src=some (.slice e)) (he:P.underlying e=some (.int .u8)) (hd:P.underlying dst=some .string) :
  ∃ g c,v = .slice (some ⟨g,0,none⟩) l.length c∧(convert src dst (.slice (some ⟨g,0,none⟩) l.length c)).run P w = .ok (.string ⟨l.toArray⟩) w:=by
 have h1:=h.1
 rw [Lib.byteCells_length,Nat.mul_one] at h1
 rcases h.2 with ⟨_,h0⟩ | ⟨g,cap,cur,hv',hb,hg,hnc,hcm,hcs,htake⟩
 ·omega
 ·refine ⟨g,cap,by rw [hv',h1],run_convert_bytes_back w src dst e ⟨g,0,none⟩ cap l hs he hd fun j hj => ?_⟩
  have ha:(⟨g,0,none⟩:Addr).add j=⟨g,j,none⟩:=by unfold Addr.add; split <;> simp_all
  rw [ha,cell_of_row w g j _ e (0,0) hg]
  have:cur.toList[j]? = (Lib.byteCells l)[j]? := by
   rw [← htake,List.getElem?_take_of_lt (by omega)]
  rw [← Array.getElem?_toList,this]
  simp [Lib.byteCells,hj]
end Lw
namespace Go.Proofs.YtbihljnjaondcaaGreatDoor
open Go Go.RowKit Lw
theorem bfC:Tryz.prog.underlying 122=some (.slice 5):=by kernel_rfl
theorem bfB:Tryz.prog.underlying 5=some (.int .u8):=by kernel_rfl
theorem bfD:Tryz.prog.underlying 9=some .string:=by kernel_rfl
set_option maxRecDepth 100000 in
set_option maxHeartbeats 1600000 in
theorem bn' (s:Bool) (A:Option Addr) (ns:List Nat) (n c B:Nat) (w:World) (h:Rd w B A ns) (hB:B≤w.heap.size) (hn:ns.length=n) (hl:n≤8388608) (hc:n≤c) (ht:Tab w) :
  Calls Tryz.prog 82 #[.agg #[.bool s,.slice A n c]] w fun e w'=>e = .returned (.string ⟨(Lib.itoa (zv s ns)).toArray⟩)∧Below w.heap.size w w':=by
 have hlz:=ate (s:=s) h.wds
 rw [hn] at hlz
 have hk:=fun W hR hB'=>azk s A ns n c B W hR hB' hn (by omega) hc
 generalize zv s ns=z at *
 have Hk:=Lib.hid hk
 have HT:=Lib.hid ht
 obtain ⟨i0,hi0,hz0,hz1,hz2⟩:=info_parts bdx
 clear hk ht
 go_enter Tryz.func82,Tryz.ntmps82
 go_wp2_with fail
 refine (Hk.out _ (h.alloc hB _) (by simp; omega)).mono ?_
 rintro e w1 ⟨A1,c1,rfl,hc1,hr1,hb1⟩
 obtain ⟨t1,hs1,hb2⟩:=box1 hb1
 have T1:=t1.put (.bool (sg z)) (.slice A1 (mg z).length c1)
 have R1:=hr1.ak' t1 (sg z) (.slice A1 (mg z).length c1)
 have hb3:=(hb2.setCell (p:=⟨w.heap.size,0,none⟩) (Nat.le_refl _) (.bool (sg z))).setCell (p:=⟨w.heap.size,1,none⟩) (Nat.le_refl _) (.slice A1 (mg z).length c1)
 obtain ⟨c10,c11,f10,f11⟩:=t1.facts
 obtain ⟨d10,d11,g10,g11⟩:=T1.facts
 cases hsg:sg z
 ·have HI:=Lib.hid (anm hsg)
  go_wp2_with fail
  rw [hsg] at R1 hb3
  refine (bbK w.heap.size z.natAbs [] _ 0 A1 (mg z).length c1 B _ (World.ownsRow_nil _ _ _ _) hb3.size (by omega) R1 (by simp; omega) rfl (by omega) (HT.out.next hb3)).mono ?_
  rintro e w2 ⟨v2,k2,rfl,hown2,hb4⟩
  rw [← HI.out] at hown2
  obtain ⟨g,c2,rfl,hrun⟩:=bed (P:=Tryz.prog) hown2 (by rw [HI.out]; have:=a4l z.natAbs; simp; omega) bfC bfB bfD
  have hbE:=hb3.trans hb4
  clear hown2 hb4 hb3
  go_wp2_with fail
  go_ret
  exact ⟨rfl,hbE⟩
 ·have HI:=Lib.hid (itoa_neg hsg)
  rw [hsg] at R1 hb3 T1 d10 d11 g10 g11
  have hszA:=hb3.size
  have hown0:=World.ownsRow_nil ((w1.setCell ⟨w.heap.size,0,none⟩ (.bool true)).setCell ⟨w.heap.size,1,none⟩ (.slice A1 (mg z).length c1)) w.heap.size 5 1
  have hnew:=heap_alloc_new ((w1.setCell ⟨w.heap.size,0,none⟩ (.bool true)).setCell ⟨w.heap.size,1,none⟩ (.slice A1 (mg z).length c1)) (.cells #[.int .u8 45] 5)
  rw [World.size_setCell,World.size_setCell] at hnew
  go_wp2_with (at_builtin; go_loud (refine wpList_append_own _ rfl _ _ 122 rfl w.heap.size 5 i0 _ 1 1 Tryz.underlying122 hi0 hz0 hz1 hz2 rfl (by decide) _ 0 _ rfl (hown0.alloc _) ⟨w1.heap.size,0,none⟩ 1 1 [.int .u8 45] rfl rfl (World.news_of_block (cs := #[.int .u8 45]) (t:=5) (fr:=(0,0)) hnew) (by simp [Value.oneCell']) (by unfold maxLen; omega) (by omega) (by simp; omega) ?_); intro v' w2 hown2 hgrow2 hnil; have hgrow:(((w1.setCell ⟨w.heap.size,0,none⟩ (.bool true)).setCell ⟨w.heap.size,1,none⟩ (.slice A1 (mg z).length c1)).alloc (.cells #[.int .u8 45] 5)).grownBy w2 none:=hgrow2; have T2:Two w2 w.heap.size _ _ _:=(hgrow.block w.heap.size (by simp; omega) (by simp)).trans (T1.alloc _); obtain ⟨d20,d21,g20,g21⟩:=T2.facts)
  have hb4:=(hb3.alloc (by omega) (.cells #[.int .u8 45] 5)).grown hgrow (by simp; omega) (fun k hk=>by simp at hk)
  have R2:=R1.below (((Below.refl B _).alloc (by simp; omega) (.cells #[.int .u8 45] 5)).grown hgrow (by simp; omega) (fun k hk=>by simp at hk))
  have hown:w2.ownsRow w.heap.size 5 1 v' 1 (Lib.byteCells [45]):=hown2
  refine (bbK w.heap.size z.natAbs [45] _ 1 A1 (mg z).length c1 B _ hown hb4.size (by omega) R2 (by have:=hb4.size; omega) rfl (by omega) (HT.out.next hb4)).mono ?_
  rintro e w3 ⟨v3,k3,rfl,hown3,hb5⟩
  rw [← HI.out] at hown3
  obtain ⟨g,c3,rfl,hrun⟩:=bed (P:=Tryz.prog) hown3 (by rw [HI.out]; have:=a4l z.natAbs; simp) bfC bfB bfD
  have hbE:=hb4.trans hb5
  clear hown3 hb5 hb4 hb3 hown hown2 hgrow2 hgrow hown0
  go_wp2_with fail
  go_ret
  exact ⟨rfl,hbE⟩
end Go.Proofs.YtbihljnjaondcaaGreatDoor
