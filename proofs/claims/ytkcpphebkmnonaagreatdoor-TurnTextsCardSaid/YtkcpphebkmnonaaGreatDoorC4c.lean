/- Part of a proof, said shortly. -/
import Derived.Deep.LoopGhost
import Derived.Laws.IdiomStrings
import Derived.Lib.BufferRead
import Derived.Deep.RegionWith
import Derived.Deep.DeepCutAuto
import Derived.Test.YtkcpphebkmnonaaGreatDoorAlzc
import Derived.Test.YtkcpphebkmnonaaGreatDoorC3c
import Derived.Test.YtkcpphebkmnonaaGreatDoorC2c
import Derived.Test.YtkcpphebkmnonaaGreatDoorC1c
namespace Lw
open Go Go.RowKit
def jI:Nat->Nat->List UInt8
 | 0,_=>[]
 | k+1,g=>jI k (g/10)++[UInt8.ofNat (48+g%10)]
theorem XN(k q g:Nat)(hq:0<q)(hg:g<10^k):Lib.decDigits (q*10^k+g)=Lib.decDigits q++jI k g:=by
 induction k generalizing g with
 | zero =>
  have:g=0:=af;subst this;simp [jI]
 | succ k ih =>
  have hp:q*10^(k+1)=q*10^k*10:=by grind
  have h1:1<=q*10^k:=ap2 hq (ao2 af)
  rw [Lib.decDigits,dif_neg (by rw [hp];omega),show (q*10^(k+1)+g)/10=q*10^k+g/10 by rw [hp];omega,show (q*10^(k+1)+g)%10=g%10 by rw [hp];omega,
   ih (g/10) (by rw [aoY] at hg;omega),jI,apG]
def tl(gs:List Nat):List UInt8:=(gs.reverse.map (jI 9)).flatten
theorem Td:tl []=[]:=rfl
theorem afl(gs:List Nat)(g:Nat):tl (gs++[g])=jI 9 g++tl gs:=by simp [tl]
theorem afj(gs:List Nat)(g:Nat):tl (g::gs)=tl gs++jI 9 g:=by simp [tl]
theorem byteCells_snoc(l:List UInt8)(b:UInt8):Lib.byteCells (l++[b])=Lib.byteCells l++[.int .u8 (b.toNat:Int)]:=by simp [Lib.byteCells]
theorem uO{d:Nat}(h:d<10):((UInt8.ofNat (48+d)).toNat:Int)=48+(d:Int):=by
 have:(UInt8.ofNat (48+d)).toNat=48+d:=by
  rw [UInt8.toNat_ofNat'];omega
 omega
def xW(i u:Nat):Prop:=(i<=8/\u=10^(8-i))\/(i=9/\u=0)
theorem afN:xW 0 100000000 := .inl ⟨af,by rfl⟩
theorem afM{i:Nat}(h:xW i 0):i=9:=by
 rcases h with ⟨h,h1⟩ | ⟨h,_⟩
 ·grind
 ·exact h
theorem afO{i u:Nat}(h:xW i u)(hu:u≠0):xW (i+1) (u/10)/\i<=8:=by
 rcases h with ⟨h,h1⟩ | ⟨h,h1⟩
 ·refine ⟨?_,h⟩
  rcases aoM i 8 with h2 | h2
  ·left
   refine ⟨af,?_⟩;rw [h1,show 8-i=(8-(i+1))+1 from af,aoY,Nat.mul_div_cancel _ af]
  ·obtain rfl:i=8:=af
   right;omega
 ·omega
theorem ab7{i u g:Nat}(h:xW i u)(hu:u≠0):jI (i+1) (g/10^(9-(i+1)))=jI i (g/10^(9-i))++[UInt8.ofNat (48+g/u%10)]:=by
 rcases h with ⟨h,h1⟩ | ⟨h,h1⟩
 ·rw [jI,show 9-(i+1)=8-i from af,<- h1,apV,h1,show 9-i=(8-i)+1 from af,aoY]
 ·omega
theorem ab5{g:Nat} : jI 9 (g/10^(9-9))=jI 9 g:=by simp
theorem ab6{g:Nat} : jI 0 (g/10^(9-0))=[]:=rfl
end Lw
namespace Go.Proofs.BGQ
open Go Go.RowKit Lw
theorem O7:(Tryz.prog.info? 5).map (fun i=>(i.zero,i.size,i.bytes))=some (some (.int .u8 0),1,1):=ah
set_option maxRecDepth 100000 in
set_option maxHeartbeats 1600000 in
theorem Wj(Bt g:Nat)(l:List UInt8)(v:Value)(n:Nat)(w:World)(hown:w.ownsRow Bt 5 1 v n (Lib.byteCells l))(hB:Bt<=w.heap.size)(hn:n<=1099511627776)(hg:g<=4294967295) :
  Calls Tryz.prog 177 #[v,.int .u32 g] w fun e w' => ∃ v',e = .returned v'/\w'.ownsRow Bt 5 1 v' (n+9) (Lib.byteCells (l++jI 9 g))/\Below Bt w w'/\Lib.OthersKept 5 none w w':=by
 obtain ⟨i0,hi0,hz0,hz1,hz2⟩:=info_parts O7
 go_enter Tryz.func177,Tryz.ntmps177
 go_wp2_with fail
 go_loopw [0,5] (fun tv uv wr => ∃ (i u:Nat),i<=9/\u<=100000000/\uv = .int .u32 u/\Hid (xW i u)/\wr.ownsRow Bt 5 1 tv (n+i) (Lib.byteCells (l++jI i (g/10^(9-i))))/\Below Bt w wr/\Lib.OthersKept 5 none w wr) (fun _ uv _=>(intOf uv).toNat)
 case atStart=>exact ⟨0,100000000,af,af,rfl,Lib.hid afN,by rw [ab6,aqc];exact hown,Below.refl _ _,Lib.OthersKept.refl _ _ _⟩
 case round =>
  obtain ⟨i,u,hi,hu,rfl,hun,hown1,hb1,hk1⟩:=hrel;clear hown
  by_cases h0:u=0
  ·subst h0
   have h9:=afM hun.out;subst h9;rw [ab5] at hown1
   go_wp2_with fail
   go_ret
   exact ⟨_,rfl,hown1,hb1,hk1⟩
  ·have hst:=afO hun.out h0
   have HS:=Lib.hid hst.1;have HP:=Lib.hid (ab7 (g:=g) hun.out h0);have hi8:=hst.2;have hu1:1<=u:=af
   have hq:IntKind.u32.wrap ((g:Int)/(u:Int))=((g/u:Nat):Int):=by
    rw [<- ap1];exact IntWalk.u32_in _ (by have:=ao4 g u;generalize g/u=Q at *;omega)
   have iw:g/u<=4294967295:=aoH (ao4 g u) hg;clear hst h0 hun;obtain ⟨Q,hQ⟩ : ∃ Q,Q=g/u:=⟨_,rfl⟩;rw [<- hQ] at hq iw HP;clear hQ;have hsz1:=hb1.size
   go_wp2_with (at_builtin;refine wpList_append_own _ rfl _ _ 140 rfl Bt 5 i0 _ 1 1 Tryz.underlying140 hi0 hz0 hz1 hz2 rfl ai _ (n+i) _ rfl (hown1.alloc _) ⟨wr.heap.size,0,none⟩ 1 1 [.int .u8 (48+(Q:Int)%10)] rfl rfl (World.news_of_block (cs := #[.int .u8 (48+(Q:Int)%10)]) (t:=5) (fr:=(0,0)) (heap_alloc_new wr _)) (by simp [Value.oneCell']) (by unfold maxLen;omega) af (by simp;omega) ?_;intro v' w1 hown2 hgrow2 hnil)
   have hgrow:(wr.alloc (.cells #[.int .u8 (48+(Q:Int)%10)] 5)).grownBy w1 u0.ownBlock:=hgrow2;have hd:=uO (d:=Q%10) (aoN _ af);have HD:Hid ([Value.int .u8 (48+(Q:Int)%10)]=[Value.int .u8 ((UInt8.ofNat (48+Q%10)).toNat:Int)]):=Lib.hid (by rw [hd];simp);clear hgrow2 hnil hd
   go_roundw
   case rel =>
    refine ⟨i+1,u/10,af,af,by go_num,HS,?_,(hb1.alloc af _).grown hgrow (by simp;omega) (fun k hk=>(hown1.lt k hk).1),(hk1.alloc _).grown hgrow (Lib.ownsRow_kind (hown1.alloc _))⟩;rw [HP.out,<- apG,byteCells_snoc,<- HD.out];exact hown2
   case measure=>simp [intOf];omega
end Go.Proofs.BGQ
namespace Lw
open Go Go.RowKit
section
variable {gs ns:List Nat} {xs:List Value} {M N base g m n size:Nat} {e t:TypeId} {v:Value} {w w':World}
def Parts(N M:Nat)(gs:List Nat):Prop:=Lib.decDigits N=Lib.decDigits M++tl gs/\M*2^gs.length<=N/\(∀ x∈gs,x<=999999999)
theorem acf(N:Nat):Parts N N []:=⟨by simp [Td],by simp,fun x h=>by cases h⟩
theorem acg(h:Parts N M gs)(hM:4294967296<=M):Parts N (M/1000000000) (gs++[M%1000000000])/\1<=M/1000000000/\M/1000000000<M:=by
 refine ⟨⟨?_,?_,?_⟩,af,af⟩
 ·rw [h.1,afl,<- apG]
  congr 1
  have:=XN 9 (M/1000000000) (M%1000000000) af (by simp only [Nat.reducePow];omega);grind
 ·rw [apf,List.length_singleton,aoY]
  have h1:M/1000000000*(2^gs.length*2)=(M/1000000000*2)*2^gs.length:=by grind
  rw [h1];exact aoH (aoP _ af) h.2.1
 ·intro x hx
  rw [ao6,aqe] at hx;rcases hx with hx | hx
  ·exact h.2.2 x hx
  ·omega
theorem acv(n:Nat):pw n=2^(32*n):=by unfold pw;rw [apn]
theorem Qu(h:Parts N M gs)(hM:1<=M)(hN:N<pw n):gs.length<32*n:=by
 rw [acv] at hN;have h1:=aoP (2^gs.length) hM;have h2:2^gs.length<2^(32*n):=by have:=h.2.1;omega
 exact (Nat.pow_lt_pow_iff_right af).1 h2
theorem ach(h:Parts N M gs):bJ gs:=fun x hx=>by have:=h.2.2 x hx;omega
theorem byteCells_append(a b:List UInt8):Lib.byteCells (a++b)=Lib.byteCells a++Lib.byteCells b:=by simp [Lib.byteCells]
theorem afk(gs:List Nat){j:Nat}(h:j<gs.length):tl (gs.drop j)=tl (gs.drop (j+1))++jI 9 (dg gs j):=by
 rw [aqb h,afj,mX h]
theorem II(h:w.ownsRow base e 1 v n (arr ns))(hw:bJ ns) : ∃ A c,v = .slice A n c/\Rd w w.heap.size A ns/\ns.length=n:=by
 have hl:=h.1;rw [jS,ao1] at hl
 by_cases hv:v = .slice none 0 0
 ·subst hv
  have:n=0:=by
   rcases h.2 with ⟨_,h0⟩ | ⟨g,cap,cur,hv',_⟩
   ·exact h0
   ·cases hv'
  subst this;exact ⟨none,0,rfl,by rw [aoU hl];exact Rd.nil_ _ _ _,hl⟩
 ·obtain ⟨g,c,rfl,_,_,hb⟩:=BO h hv
  exact ⟨_,c,rfl,hb.rd hw,hl⟩
theorem own_below(h:w.ownsRow base e size v n xs)(hb:Below w.heap.size w w'):w'.ownsRow base e size v n xs :=
 h.kept (row:=none) ⟨hb.os,hb.tape,hb.output,hb.size,fun k hk _=>hb.block k hk⟩ (by
  rcases h.2 with ⟨rfl,_⟩ | ⟨g,cap,cur,rfl,_⟩
  ·exact .inl rfl
  ·exact .inr (by simp [Value.ownBlock]))
theorem ab4(h:w.ownsRow base e size v n xs)(hg:w.grownBy w' (some g))(hlt:g<base):w'.ownsRow base e size v n xs :=
 h.kept hg (by
  rcases h.2 with ⟨rfl,_⟩ | ⟨g',cap,cur,rfl,hb,_⟩
  ·exact .inl rfl
  ·exact .inr (by simp [Value.ownBlock];omega))
theorem WG(h:bF w g t ns)(ho:w.ownsRow base e size v n xs)(hg:w.grownBy w' v.ownBlock)(hlt:g<base):bF w' g t ns :=
 h.of_same (hg.block g h.lt (fun e=>by have:=(ho.lt g e.symm).1;omega))
theorem XQ(h:(bn M).length=m)(hm:m<=1):dg (bn M) 0=M:=by
 have e1:=di (l:=bn M) (k:=1) af;rw [dh,fH,kY,bM] at e1;omega
theorem afw(h:(bn M).length=m)(hm:1<m):4294967296<=M:=by
 have:=vY (fG M) (by intro e;rw [e] at h;simp at h;omega);rw [bM] at this;have h2:pw 1<=pw ((bn M).length-1):=dU af;have h3:pw 1=4294967296:=rfl;omega
theorem Cc(k u:Nat)(h:u<10^(k+1)):(Lib.decDigits u).length<=k+1:=by
 induction k generalizing u with
 | zero=>rw [Lib.decDigits,dif_pos (by simpa using h)];simp
 | succ k ih =>
  rw [Lib.decDigits];grind
def Gr(t:TypeId)(w:World)(A:Option Addr)(gs:List Nat):Prop:=gs=[] \/ ∃ g,A=some ⟨g,0,none⟩/\bF w g t gs
theorem Gr.rd{t:TypeId}{w:World}{A:Option Addr}{gs:List Nat}(h:Gr t w A gs)(hw:bJ gs):Rd w w.heap.size A gs:=by
 rcases h with rfl | ⟨g,rfl,h⟩
 ·exact Rd.nil_ _ _ _
 ·exact h.rd hw
theorem Gr.others{A:Option Addr}(h:Gr t w A gs)(hk:Lib.OthersKept e none w w')(ht:t≠e):Gr t w' A gs:=by
 rcases h with rfl | ⟨g,rfl,rest,h⟩
 ·exact .inl rfl
 ·exact .inr ⟨g,rfl,rest,hk g _ h (by simp) (fun c fz e=>by cases e;exact ht rfl)⟩
theorem Gr.drewN{t:TypeId}{w:World}{A:Option Addr}{gs:List Nat}(h:Gr t w A gs)(k:Nat):Gr t (w.drewN k) A gs:=h
theorem ab3(h:w.ownsRow base e 1 v n (arr ns)) : ∃ A c,v = .slice A n c/\Gr e w A ns:=by
 by_cases hv:v = .slice none 0 0
 ·subst hv
  have:n=0:=by
   rcases h.2 with ⟨_,h0⟩ | ⟨g,cap,cur,hv',_⟩
   ·exact h0
   ·cases hv'
  subst this;have hl:=h.1;rw [jS,ao1] at hl;exact ⟨none,0,rfl,.inl (aoU hl)⟩
 ·obtain ⟨g,c,rfl,_,_,hb⟩:=BO h hv
  exact ⟨_,c,rfl,.inr ⟨g,rfl,hb⟩⟩
end
end Lw
namespace Go.Proofs.BGQ
open Go Go.RowKit Lw
def Tab(w:World):Prop:=Lib.TabIs Tryz.prog w "internal/strconv.uint64pow10" .u64 Lib.pow10Tab
theorem Tab.next{w w':World}(h:Tab w)(hb:Below w.heap.size w w'):Tab w':=Lib.tabBelow_of_tabIs h w' hb
theorem Wn(B n u:Nat)(hu:u<18446744073709551616)(sv:Value)(xs:List Value)(w:World)(hown:w.ownsRow B 5 1 sv n xs)(hBw:B<=w.heap.size)(hlim:n<=1099511627776)(ht:Tab w) :
  Calls Tryz.prog 193 #[sv,.int .u64 u,.int .i64 10] w fun e w' => ∃ v',e = .returned v'/\w'.ownsRow B 5 1 v' (n+(Lib.decDigits u).length) (xs++Lib.byteCells (Lib.decDigits u))/\Below B w w'/\Lib.OthersKept 5 none w w':=by
 rcases aoM u 100 with h | h
 ·exact Tryz.internal_strconv_AppendUint_10_small B n u h sv xs w hown hBw af
 ·exact Tryz.internal_strconv_AppendUint_10_big B n u h hu sv xs w hown hBw af ht
theorem agZ(B n u:Nat)(hu:u<18446744073709551616)(sv:Value)(xs:List Value)(w:World)(hown:w.ownsRow B 5 1 sv n xs)(hBw:B<=w.heap.size)(hlim:n<=1099511627776)(ht:Tab w) :
  Calls Tryz.prog 175 #[sv,.int .u64 u,.int .i64 10] w fun e w' => ∃ v',e = .returned v'/\w'.ownsRow B 5 1 v' (n+(Lib.decDigits u).length) (xs++Lib.byteCells (Lib.decDigits u))/\Below B w w'/\Lib.OthersKept 5 none w w':=by
 go_enter Tryz.func175,Tryz.ntmps175
 go_wp2_with fail
 refine (Wn B n u hu sv xs w hown hBw hlim ht).mono ?_;rintro e w1 ⟨v',rfl,h1,h2,h3⟩
 go_wp2_with fail
 go_ret
 exact ⟨_,rfl,h1,h2,h3⟩
set_option maxRecDepth 100000 in
set_option maxHeartbeats 3200000 in
theorem LG(Bt N:Nat)(l:List UInt8)(v:Value)(nt:Nat)(A:Option Addr)(n c B:Nat)(w:World)(hown:w.ownsRow Bt 5 1 v nt (Lib.byteCells l))(hBt:Bt<=w.heap.size)(hnt:nt<=65536)(h:Rd w B A (bn N))(hB:B<=w.heap.size)(hn:(bn N).length=n)(hl:n<=8388608)(ht:Tab w) :
  Calls Tryz.prog 141 #[v,.slice A n c] w fun e w' => ∃ v' k,e = .returned v'/\w'.ownsRow Bt 5 1 v' k (Lib.byteCells (l++Lib.decDigits N))/\Below Bt w w':=by
 have Hn:=Lib.hid hn;clear hn;have KQ:Hid (N<pw n):=Lib.hid (by rw [<- Hn.out];exact nH (aoG _))
 go_enter Tryz.func141,Tryz.ntmps141
 go_wp2_with fail
 refine (clone_any A (bn N) _ _ B _ h hB Hn.out af).mono ?_;rintro e w1 ⟨A1,c1,rfl,hc1,hg1,hr1,hb1⟩;have ht1:=ht.next hb1;have KR:=Lib.hid hown;have HT:=Lib.hid ht;clear hown ht1 ht h
 go_wp2_with fail
 go_loopg [5,6] N (fun M gv rv wr => ∃ (gs:List Nat) (k:Nat) (A6:Option Addr) (m c6:Nat),rv = .slice A6 m c6/\m<=c6/\m<=n/\Hid ((bn M).length=m)/\(0<m -> ∃ g,A6=some ⟨g,0,none⟩/\w.heap.size<=g/\g<w1.heap.size/\bF wr g 113 (bn M)) /\
   wr.ownsRow w1.heap.size 113 1 gv k (arr gs)/\Hid (Parts N M gs)/\Hid (gs=[]\/1<=M)/\Below w.heap.size w wr/\w1.heap.size<=wr.heap.size)
 case atStart =>
  refine ⟨[],0,A1,n,c1,rfl,hc1,aoG _,Hn,?_,World.ownsRow_nil _ _ _ _,Lib.hid (acf N),Lib.hid (.inl rfl),hb1,aoG _⟩;intro h0;obtain ⟨g,h1,h2,h3⟩:=hg1 h0;exact ⟨g,h1,h2,h3.lt,h3⟩
 case round =>
  obtain ⟨gs,k,A6,m,c6,rfl,hc6,hmn,hm,hblk6,vk,hparts,hone,hbw,H8⟩:=hrel
  by_cases hm1:1<m
  ·obtain ⟨g,rfl,hg0,hgl,hblk⟩:=hblk6 af
   have HM:=Lib.hid (afw hm.out hm1);have HS:=Lib.hid (acg hparts.out HM.out);have hk:=vk.1;rw [jS,ao1] at hk;have HK:=Lib.hid hk;have hkl:k<=268435456:=by have:=Qu hparts.out (by have:=HM.out;omega) KQ.out;omega
   clear hblk6 hk
   go_wp2_with fail
   refine (Nj g 1000000000 (bn gk) _ c6 _ hblk (dK _) hm.out af af af af).mono ?_;rintro e w3 ⟨ds,rfl,hblk3,hw3,hl3,hv3,hg3,hs3⟩;rw [bM] at hv3 ⊢;obtain ⟨R,hR⟩ : ∃ R,R=gk%1000000000:=⟨_,rfl⟩;rw [<- hR] at HS ⊢;have hRl:R<=999999999:=af;clear hR;obtain ⟨Q,hQ⟩ : ∃ Q,Q=gk/1000000000:=⟨_,rfl⟩;rw [<- hQ] at HS hv3;clear hQ;have hb4:=below_of_grown hbw hg3 af hg0;have CY:=ab4 vk hg3 hgl;have uI:=Lib.hid hv3;have EW:=Lib.hid hl3;have hsz3:w1.heap.size<=w3.heap.size:=af;clear hblk vk hg3 hv3 hl3 hs3;have lW:=(bF.new w3 113 [R]).rd (by rw [iH];exact ⟨af,gV⟩)
   go_wp2_with (at_builtin;refine Ba _ rfl _ _ 22 rfl w1.heap.size 113 amZ iW _ k gs rfl (CY.alloc _) _ _ [R] 1 1 rfl lW rfl af (by simp;omega) ?_;intro v' w4 hown4 hgrow4 hnil)
   have hgrow:(w3.alloc (.cells #[.int .u32 (R:Int)] 113)).grownBy w4 u5.ownBlock:=hgrow4;have kT:=WG (hblk3.alloc (.cells #[.int .u32 (R:Int)] 113)) (CY.alloc _) hgrow hgl;have OO:=hgrow.size;have H7:w1.heap.size<=w4.heap.size:=by simp at OO;omega
   have hb5:Below w.heap.size w w4:=(hb4.alloc af _).grown hgrow (by simp;omega) (fun k hk=>by have:=(CY.lt k hk).1;omega);have iO:=kT.rd hw3;clear hgrow4 hnil CY hgrow OO lW;refine (mJ _ ds _ c6 _ _ iO EW.out hc6 af).mono ?_;rintro e w5 ⟨rfl,rfl⟩;rw [uI.out]
   go_wp2_with fail
   go_roundg Q
   case measure=>exact HS.out.2.2
   case rel =>
    refine ⟨gs++[R],k+1,_,(bn Q).length,c6,rfl,?_,?_,Lib.hid rfl,fun _=>⟨g,rfl,hg0,hgl,?_⟩,hown4,Lib.hid HS.out.1,Lib.hid (.inr HS.out.2.1),hb5,H7⟩
    ·have:=jP hw3;rw [uI.out,EW.out] at this;omega
    ·have:=jP hw3;rw [uI.out,EW.out] at this;omega
    ·have:=kT.bn hw3;rw [uI.out] at this;exact this
  ·have qM:Rd wr wr.heap.size A6 (bn gk):=by
    rcases aoT m with h0 | h0
    ·have e0:bn gk=[]:=aoU (by rw [hm.out];exact h0)
     rw [e0];exact Rd.nil_ _ _ _
    ·obtain ⟨g,rfl,_,_,hblk⟩:=hblk6 h0
     exact hblk.rd (dK _)
   have HD0:Hid (wd (bn gk) 0=gk):=Lib.hid (by have:=jA (bn gk) 0;rw [XQ hm.out af] at this;exact this);have hgk:gk<4294967296:=by have:=lg (dK gk) 0;rw [HD0.out] at this;exact this
   have hk:=vk.1;rw [jS,ao1] at hk
   have hkl:k<=268435456:=by
    rcases hone.out with h0 | h0
    ·rw [h0] at hk;simp at hk;omega
    ·have:=Qu hparts.out h0 KQ.out;omega
   have HK:=Lib.hid hk;have hown5:=own_below KR.out hbw;have OT:=HT.out.next hbw;have KT:=Lib.hid hown5;have KU:=Lib.hid OT;have Vg:=Lib.hid hparts.out.1;have hgw:bJ gs:=ach hparts.out;clear hblk6 hk hown5 OT
   go_wp2_with fail
   refine (lC A6 (bn gk) _ c6 _ 0 _ qM hm.out af).mono ?_;rintro e w3 ⟨rfl,rfl⟩;rw [HD0.out]
   go_wp2_with fail
   have C9:=hbw.size;refine (agZ Bt nt gk af v _ _ KT.out af af KU.out).mono ?_;rintro e w3 ⟨v3,rfl,hown3,hb3,hk3⟩;have UY:(Lib.decDigits gk).length<=10:=Cc 9 gk (by simp only [Nat.reduceAdd,Nat.reducePow];omega);obtain ⟨D,hD⟩ : ∃ D,D=(Lib.decDigits gk).length:=⟨_,rfl⟩;rw [<- hD] at UY hown3;clear hD;obtain ⟨A5,c5,rfl,hgr⟩:=ab3 vk;have Ot:=hgr.others hk3 ai;have hb6:Below Bt w w3:=(hbw.mono hBt).trans hb3;clear hgr vk hk3 hb3 hb1 hr1 hg1 KR KT HT KU qM;rw [<- byteCells_append] at hown3
   go_wp2_with fail
   go_loopw [0,7] (fun tv iv wr' => ∃ (i:Int) (q:Nat),-1<=i/\i<k/\iv = .int .i64 i/\(q:Int)+9*(i+1)=nt+D+9*k /\
     wr'.ownsRow Bt 5 1 tv q (Lib.byteCells (l++Lib.decDigits gk++tl (gs.drop (i+1).toNat)))/\Below Bt w wr'/\Gr 113 wr' A5 gs) (fun _ iv _=>(intOf iv+1).toNat)
   case atStart =>
    refine ⟨(k:Int)-1,nt+D,af,af,rfl,af,?_,?_,?_⟩
    ·rw [show ((k:Int)-1+1).toNat=k from af,apR (by rw [HK.out];exact aoG _),Td,aqc]
     exact hown3
    ·exact hb6
    ·exact Ot
   case round =>
    obtain ⟨i,q,hi0,hi1,rfl,hq,hown4,hb7,Ou⟩:=hrel;clear hown3 hb6 Ot
    by_cases hi:0<=i
    ·obtain ⟨j,rfl⟩:=apq hi
     rw [show ((j:Int)+1).toNat=j+1 by omega] at hown4;obtain ⟨b,off,rfl,hb,hcell,hlt⟩:=(Ou.rd hgw).at_ (k:=j) (by rw [HK.out];omega);have KW:=Lib.hid (afk gs (j:=j) (by rw [HK.out];omega));have ai5:=hb7.size;obtain ⟨G,hG⟩ : ∃ G,G=dg gs j:=⟨_,rfl⟩;rw [<- hG] at KW hcell hlt;clear hG hi
     go_wp2_with fail
     refine (Wj Bt G _ u0 q _ hown4 af af af).mono ?_;rintro e w4 ⟨v4,rfl,hown5,hb8,hk8⟩
     go_wp2_with fail
     go_roundw
     case rel =>
      refine ⟨(j:Int)-1,q+9,af,af,rfl,af,?_,hb7.trans hb8,Ou.others hk8 ai⟩;rw [show ((j:Int)-1+1).toNat=j from af,KW.out,<- apG];exact hown5
     case measure=>simp [intOf]
    ·obtain rfl:i = -1:=af
     have HD:Hid (Lib.decDigits gk++tl (gs.drop (-1+1:Int).toNat)=Lib.decDigits N):=Lib.hid (by rw [Vg.out];rfl)
     go_wp2_with fail
     go_ret
     refine ⟨u0,rfl,⟨q,?_⟩,hb7⟩;rw [<- HD.out,<- apG];exact hown4
end Go.Proofs.BGQ
namespace Lw
open Go Go.RowKit
theorem itoa_neg{z:Int}(h:sg z=true):Lib.itoa z=[45]++Lib.decDigits z.natAbs:=by
 have:=uo h;unfold Lib.itoa;rw [if_pos af];rfl
theorem je{z:Int}(h:sg z=false):Lib.itoa z=[]++Lib.decDigits z.natAbs:=by
 have:=AP h;unfold Lib.itoa;rw [if_neg af,show z.toNat=z.natAbs by omega];rfl
theorem uN(u:Nat):0<(Lib.decDigits u).length:=by
 rw [Lib.decDigits];grind
theorem Qr{P:Program}{w:World}{base n:Nat}{e src dst:TypeId}{v:Value}{l:List UInt8}(h:w.ownsRow base e 1 v n (Lib.byteCells l))(hl:0<l.length)(hs:P.underlying src=some (.slice e))(he:P.underlying e=some (.int .u8))(hd:P.underlying dst=some .string) :
  ∃ g c,v = .slice (some ⟨g,0,none⟩) l.length c/\(convert src dst (.slice (some ⟨g,0,none⟩) l.length c)).run P w = .ok (.string ⟨l.toArray⟩) w:=by
 have h1:=h.1;rw [Lib.byteCells_length,ao1] at h1;rcases h.2 with ⟨_,h0⟩ | ⟨g,cap,cur,hv',hb,hg,hnc,hcm,hcs,htake⟩
 ·omega
 ·refine ⟨g,cap,by rw [hv',h1],run_convert_bytes_back w src dst e ⟨g,0,none⟩ cap l hs he hd fun j hj => ?_⟩
  have ha:(⟨g,0,none⟩:Addr).add j=⟨g,j,none⟩:=by unfold Addr.add;split <;> simp_all
  rw [ha,cell_of_row w g j _ e (0,0) hg]
  have:cur.toList[j]? = (Lib.byteCells l)[j]? := by
   rw [<- htake,List.getElem?_take_of_lt af]
  rw [<- Array.getElem?_toList,this];simp [Lib.byteCells,hj]
end Lw
namespace Go.Proofs.BGQ
open Go Go.RowKit Lw
theorem TB:Tryz.prog.underlying 140=some (.slice 5):=ah
theorem Tv:Tryz.prog.underlying 5=some (.int .u8):=ah
theorem TC:Tryz.prog.underlying 9=some .string:=ah
set_option maxRecDepth 100000 in
set_option maxHeartbeats 1600000 in
theorem afd(s:Bool)(A:Option Addr)(ns:List Nat)(n c B:Nat)(w:World)(h:Rd w B A ns)(hB:B<=w.heap.size)(hn:ns.length=n)(hl:n<=8388608)(hc:n<=c)(ht:Tab w) :
  Calls Tryz.prog 94 #[.agg #[.bool s,.slice A n c]] w fun e w'=>e = .returned (.string ⟨(Lib.itoa (zv s ns)).toArray⟩)/\Below w.heap.size w w':=by
 have hlz:=ji (s:=s) h.bQ;rw [hn] at hlz;have hk:=fun W hR hB'=>pg s A ns n c B W hR hB' hn af hc;generalize zv s ns=z at *;have Hk:=Lib.hid hk;have HT:=Lib.hid ht;obtain ⟨i0,hi0,hz0,hz1,hz2⟩:=info_parts O7;clear hk ht
 go_enter Tryz.func94,Tryz.ntmps94
 go_wp2_with fail
 refine (Hk.out _ (h.alloc hB _) (by simp;omega)).mono ?_;rintro e w1 ⟨A1,c1,rfl,hc1,hr1,hb1⟩;obtain ⟨t1,hs1,hb2⟩:=box1 hb1;have T1:=t1.put (.bool (sg z)) (.slice A1 (mg z).length c1);have R1:=hr1.gG t1 (sg z) (.slice A1 (mg z).length c1);have hb3:=(hb2.setCell (p:=⟨w.heap.size,0,none⟩) (aoG _) (.bool (sg z))).setCell (p:=⟨w.heap.size,1,none⟩) (aoG _) (.slice A1 (mg z).length c1);obtain ⟨c10,c11,f10,f11⟩:=t1.facts;obtain ⟨d10,d11,g10,g11⟩:=T1.facts
 cases hsg:sg z
 ·have HI:=Lib.hid (je hsg)
  go_wp2_with fail
  rw [hsg] at R1 hb3;refine (LG w.heap.size z.natAbs [] _ 0 A1 (mg z).length c1 B _ (World.ownsRow_nil _ _ _ _) hb3.size af R1 (by simp;omega) rfl af (HT.out.next hb3)).mono ?_;rintro e w2 ⟨v2,k2,rfl,hown2,hb4⟩;rw [<- HI.out] at hown2;obtain ⟨g,c2,rfl,hrun⟩:=Qr (P:=Tryz.prog) hown2 (by rw [HI.out];have:=uN z.natAbs;simp;omega) TB Tv TC;have GX:=hb3.trans hb4;clear hown2 hb4 hb3
  go_wp2_with fail
  go_ret
  exact ⟨rfl,GX⟩
 ·have HI:=Lib.hid (itoa_neg hsg)
  rw [hsg] at R1 hb3 T1 d10 d11 g10 g11;have hszA:=hb3.size;have hown0:=World.ownsRow_nil ((w1.setCell ⟨w.heap.size,0,none⟩ (.bool true)).setCell ⟨w.heap.size,1,none⟩ (.slice A1 (mg z).length c1)) w.heap.size 5 1;have hnew:=heap_alloc_new ((w1.setCell ⟨w.heap.size,0,none⟩ (.bool true)).setCell ⟨w.heap.size,1,none⟩ (.slice A1 (mg z).length c1)) (.cells #[.int .u8 45] 5);rw [World.size_setCell,World.size_setCell] at hnew
  go_wp2_with (at_builtin;go_loud (refine wpList_append_own _ rfl _ _ 140 rfl w.heap.size 5 i0 _ 1 1 Tryz.underlying140 hi0 hz0 hz1 hz2 rfl ai _ 0 _ rfl (hown0.alloc _) ⟨w1.heap.size,0,none⟩ 1 1 [.int .u8 45] rfl rfl (World.news_of_block (cs := #[.int .u8 45]) (t:=5) (fr:=(0,0)) hnew) (by simp [Value.oneCell']) (by unfold maxLen;omega) af (by simp;omega) ?_);intro v' w2 hown2 hgrow2 hnil;have hgrow:(((w1.setCell ⟨w.heap.size,0,none⟩ (.bool true)).setCell ⟨w.heap.size,1,none⟩ (.slice A1 (mg z).length c1)).alloc (.cells #[.int .u8 45] 5)).grownBy w2 none:=hgrow2;have T2:Two w2 w.heap.size _ _ _:=(hgrow.block w.heap.size (by simp;omega) (by simp)).trans (T1.alloc _);obtain ⟨d20,d21,g20,g21⟩:=T2.facts)
  have hb4:=(hb3.alloc af (.cells #[.int .u8 45] 5)).grown hgrow (by simp;omega) (fun k hk=>by simp at hk);have R2:=R1.below (((Below.refl B _).alloc (by simp;omega) (.cells #[.int .u8 45] 5)).grown hgrow (by simp;omega) (fun k hk=>by simp at hk));have hown:w2.ownsRow w.heap.size 5 1 v' 1 (Lib.byteCells [45]):=hown2;refine (LG w.heap.size z.natAbs [45] _ 1 A1 (mg z).length c1 B _ hown hb4.size af R2 (by have:=hb4.size;omega) rfl af (HT.out.next hb4)).mono ?_;rintro e w3 ⟨v3,k3,rfl,hown3,hb5⟩;rw [<- HI.out] at hown3;obtain ⟨g,c3,rfl,hrun⟩:=Qr (P:=Tryz.prog) hown3 (by rw [HI.out];have:=uN z.natAbs;simp) TB Tv TC;have GX:=hb4.trans hb5;clear hown3 hb5 hb4 hb3 hown hown2 hgrow2 hgrow hown0
  go_wp2_with fail
  go_ret
  exact ⟨rfl,GX⟩
end Go.Proofs.BGQ
namespace Lw
theorem Nq{a b q r:Int}(hb:b≠0)(h:r+b*q=a)(h0:0<=r)(h1:r<b.natAbs):a/b=q/\a%b=r:=by
 rcases aqo hb with h2 | h2
 ·rw [Int.ediv_emod_unique' h2];exact ⟨h,h0,af⟩
 ·rw [Int.ediv_emod_unique h2];exact ⟨h,h0,af⟩
theorem Np{z z':Int}(h:z'≠0) :
  z.natAbs%z'.natAbs<z'.natAbs /\
  (sg z=true->z.natAbs%z'.natAbs≠0->z/z'=sv (sg z != sg z') (z.natAbs/z'.natAbs+1)/\z%z'=((z'.natAbs-z.natAbs%z'.natAbs:Nat):Int)) /\
  ((sg z=false\/z.natAbs%z'.natAbs=0)->z/z'=sv (sg z != sg z') (z.natAbs/z'.natAbs)/\z%z'=((z.natAbs%z'.natAbs:Nat):Int)):=by
 have hpos:0<z'.natAbs:=af;have hR:=aoN z.natAbs hpos;have hdm:=Nat.mod_add_div z.natAbs z'.natAbs;have e1:=ru z;have e2:=ru z';rw [eX] at e1 e2;generalize z.natAbs%z'.natAbs=R at *;generalize z.natAbs/z'.natAbs=Q at *;generalize hN:z.natAbs=N at *;generalize hM:z'.natAbs=M at *;have hc:(N:Int)=(R:Int)+(M:Int)*(Q:Int):=by rw [<- hdm];simp
 generalize hx:(M:Int)*(Q:Int)=x at hc;refine ⟨hR,?_,?_⟩
 ·intro h1 h2
  rw [h1] at e1 ⊢
  cases hs:sg z' <;> rw [hs] at e2 <;> simp at e1 e2 <;> refine Nq h ?_ af af
  ·simp only [sv];rw [e2];simp only [Bool.true_bne,Bool.not_false,if_true]
   rw [Int.mul_neg,apz,Int.mul_add,hx];simp;omega
  ·simp only [sv];rw [e2];simp
   rw [Int.neg_mul,Int.mul_add,hx];omega
 ·intro h1
  cases hs:sg z' <;> rw [hs] at e2 <;> cases hs1:sg z <;> rw [hs1] at e1 h1 <;> simp at e1 e2 h1 <;> refine Nq h ?_ af af <;> simp [sv] <;> rw [e2] <;> simp only [Int.neg_mul,Int.mul_neg,hx] <;> omega
end Lw
namespace Go.Proofs.BGQ
open Go Go.RowKit Lw
theorem WH(w:World)(t:TypeId):bF (w.alloc (.cells #[.int .u32 1] t)) w.heap.size t [1]:=bF.new w t [1]
theorem agU:bJ [1]:=by rw [iH];exact ⟨af,gV⟩
def UT(w:World)(q r:Int)(e:Ending)(w':World):Prop :=
 ∃ A c A' c',e = .returned (.tuple #[.agg #[.bool (sg q),.slice A (mg q).length c],.agg #[.bool (sg r),.slice A' (mg r).length c'],.nilIface])/\(mg q).length<=c/\(mg r).length<=c'/\Rd w' w'.heap.size A (mg q)/\Rd w' w'.heap.size A' (mg r)/\Below w.heap.size w w'
attribute [local go_sem ↓] Go.wp_at_zero Go.wp_at_succ
theorem afv{p:Prop}(h:p:=by
  go_region_with (first
   | (go_at_call_of 111 (Value.agg #[Value.bool s,Value.slice A n c]);refine (pg s A ns n c B _ (by first | exact R1.drew | exact R1.next K2 af) (by first | (simp;omega) | (have:=K2.size;omega)) hn af hc).mono ?_;rintro e w1 ⟨A1,c1,rfl,hc1,hr1,hb1⟩;have K1:Below W.heap.size W w1:=(by first | exact tV hb1 | exact tX K2 hb1);obtain ⟨d10,d11,g10,g11⟩:=(T1.next K1).facts;obtain ⟨d20,d21,g20,g21⟩:=(T2.next K1).facts)
   | (go_at_call_of 111 (Value.agg #[Value.bool s',Value.slice A' m c']);refine (pg s' A' ms m c' B' _ (by first | exact R2.drew | exact R2.next K1 af) (by first | (simp;omega) | (have:=K1.size;omega)) hm af hc').mono ?_;rintro e w2 ⟨A2,c2,rfl,hc2,hr2,hb2⟩;have K2:Below W.heap.size W w2:=(by first | exact tV hb2 | exact tX K1 hb2);obtain ⟨i10,i11,j10,j11⟩:=(T1.next K2).facts;obtain ⟨i20,i21,j20,j21⟩:=(T2.next K2).facts))
  all_goals
   obtain ⟨P1,P2,P3,P4,P5⟩:_/\_/\_/\_/\_:=by
    first
     | exact pK (sg (zv s ns)) (sg (zv s' ms)) (.slice A1 (mg (zv s ns)).length c1) (.slice A2 (mg (zv s' ms)).length c2) (T1.next K2) (T2.next K2) af (hr1.next hb2 (by have:=K1.size;omega)) hr2 (bK hb0 K2 af) (aoG _) af
     | exact pK (sg (zv s ns)) (sg (zv s' ms)) (.slice A1 (mg (zv s ns)).length c1) (.slice A2 (mg (zv s' ms)).length c2) (T1.next K1) (T2.next K1) af hr1 (hr2.next hb1 (by have:=K2.size;omega)) (bK hb0 K1 af) (aoG _) af
   clear d10 d11 g10 g11 d20 d21 g20 g21 i10 i11 i20 i21 j10 j11 j20 j21 c10 c11 c20 c21 f10 f11 f20 f21
   go_wp2_with fail
   go_meet
   have FO:=(T3.next K1);have FP:=(T3.next K2);have VS:=(T4.next K1);have VT:=(T4.next K2);exact ⟨A1,c1,A2,c2,P1,P2,by first | exact FP.lM af af _ _ _ _ | exact FO.lM af af _ _ _ _,by first | exact VT.lM af af _ _ _ _ | exact VS.lM af af _ _ _ _,P3,P4,P5,hc1,hc2⟩):p:=h
attribute [local go_sem ↓] Go.wp_at_zero Go.wp_at_succ
set_option maxHeartbeats 3200000 in
theorem Ya(s s':Bool)(A A':Option Addr)(ns ms:List Nat)(n m c c' B B':Nat)(w:World)(h:Rd w B A ns)(h':Rd w B' A' ms)(hB:B<=w.heap.size)(hB':B'<=w.heap.size)(hn:ns.length=n)(hm:ms.length=m)(hl:n<=8388608)(hl':m<=8388608)(hc:n<=c)(hc':m<=c')(hz:zv s' ms≠0)(HL:n<=2\/FN) :
  Calls Tryz.prog 173 #[.agg #[.bool s,.slice A n c],.agg #[.bool s',.slice A' m c']] w (UT w (zv s ns/zv s' ms) (zv s ns%zv s' ms)):=by
 have hlz:=ji (s:=s) h.bQ;have hlz':=ji (s:=s') h'.bQ;rw [hn] at hlz;rw [hm] at hlz';have Fb:=Lib.hid hz;have Vd:=Lib.hid HL;clear hz HL
 go_enter Tryz.func173,Tryz.ntmps173
 go_upto_region 1 with fail
 obtain ⟨T1,T2,T3,T4,_,hb0⟩:=WM (Below.refl _ ((((w.alloc (.cells #[.bool s,.slice A n c] 79)).alloc (.cells #[.bool s',.slice A' m c'] 79)).alloc (.cells #[.bool false,.slice none 0 0] 79)).alloc (.cells #[.bool false,.slice none 0 0] 79)));have R1:=h.below (hb0.mono hB);have R2:=h'.below (hb0.mono hB');generalize hW:((((w.alloc (.cells #[.bool s,.slice A n c] 79)).alloc (.cells #[.bool s',.slice A' m c'] 79)).alloc (.cells #[.bool false,.slice none 0 0] 79)).alloc (.cells #[.bool false,.slice none 0 0] 79))=W at *;clear hW;have l3:=T4.lt;obtain ⟨c10,c11,f10,f11⟩:=T1.facts;obtain ⟨c20,c21,f20,f21⟩:=T2.facts
 go_cut [] (fun wc => ∃ A1 c1 A2 c2,Two wc w.heap.size 79 (.bool (sg (zv s ns))) (.slice A1 (mg (zv s ns)).length c1)/\Two wc (w.heap.size+1) 79 (.bool (sg (zv s' ms))) (.slice A2 (mg (zv s' ms)).length c2) /\
  Two wc (w.heap.size+1+1) 79 (.bool false) (.slice none 0 0)/\Two wc (w.heap.size+1+1+1) 79 (.bool false) (.slice none 0 0)/\Rd wc B A1 (mg (zv s ns))/\Rd wc B' A2 (mg (zv s' ms))/\Below w.heap.size w wc/\(mg (zv s ns)).length<=c1/\(mg (zv s' ms)).length<=c2)
 case first=>exact afv
 case rest =>
  obtain ⟨A1,c1,A2,c2,Q1,Q2,Q3,Q4,r1,r2,hbc,hc1,hc2⟩:=hcut;clear T1 T2 T3 T4 R1 R2 hb0 l3 c10 c11 c20 c21 f10 f11 f20 f21;obtain ⟨c10,c11,f10,f11⟩:=Q1.facts;obtain ⟨c20,c21,f20,f21⟩:=Q2.facts
  have hbq:(((mg (zv s' ms)).length:Int)==0)=false:=by
   rw [beq_eq_false_iff_ne];intro e;exact Fb.out (kW.1 af)
  go_wp2_with fail
  refine (Gi A1 A2 (zv s ns).natAbs (zv s' ms).natAbs _ _ c1 c2 B B' _ r1 r2 (by have:=hbc.size;omega) (by have:=hbc.size;omega) rfl rfl (aoH hlz hl) (aoH hlz' hl') hc1 hc2 (by have:=Fb.out;omega) (Vd.out.imp (fun h=>aoH hlz h) id)).mono ?_;rintro e w3 ⟨A3,c3,A4,c4,rfl,hc3,hc4,hr3,hr4,hb3⟩;have HE:=Lib.hid (Np (z:=zv s ns) Fb.out);have hQb:=Ey s ns;have Zt:(bn ((zv s ns).natAbs/(zv s' ms).natAbs)).length<=n:=aoH (fD (ao0 (aoH (ao4 _ _) hQb) (eu h.bQ))) (by rw [hn];exact aoG _);have U1:=Q1.next hb3;have U2:=Q2.next hb3;have U3:=Q3.next hb3;have U4:=Q4.next hb3;have r2':=r2.next hb3 (by have:=hbc.size;omega);have hb4:=bK hbc hb3 (aoG _);obtain ⟨d10,d11,g10,g11⟩:=U1.facts;obtain ⟨d20,d21,g20,g21⟩:=U2.facts;obtain ⟨d30,d31,g30,g31⟩:=U3.facts;obtain ⟨d40,d41,g40,YZ⟩:=U4.facts;obtain ⟨Q,hQ⟩ : ∃ Q,Q=(zv s ns).natAbs/(zv s' ms).natAbs:=⟨_,rfl⟩;obtain ⟨R,hR⟩ : ∃ R,R=(zv s ns).natAbs%(zv s' ms).natAbs:=⟨_,rfl⟩;rw [<- hQ] at hr3 hc3 Zt HE ⊢;rw [<- hR] at hr4 hc4 HE ⊢;clear hQ hR hQb c10 c11 c20 c21 f10 f11 f20 f21
  cases hsn:sg (zv s ns)
  ·have HF:Hid (zv s ns/zv s' ms=(if sg (zv s' ms)=true then -(Q:Int) else (Q:Int))/\zv s ns%zv s' ms=if false=true then -(R:Int) else (R:Int)):=Lib.hid (by obtain ⟨_,_,h3⟩:=HE.out;obtain ⟨h4,h5⟩:=h3 (.inl hsn);rw [hsn,Bool.false_bne] at h4;exact ⟨h4,h5⟩)
   clear HE
   go_wp2_with fail
   refine (jL (sg (zv s' ms)) A3 (Q) _ c3 _ (zv s ns/zv s' ms) _ hr3 (aoG _) rfl hc3 HF.out.1).mono ?_;rintro e w6 ⟨A6,c6,rfl,hc6,qM,hb6⟩;have V3:=(U3).next hb6;have V4:=(U4).next hb6;have rr:=(hr4).next hb6 (aoG _)
   go_wp2_with fail
   refine (jL false A4 (R) _ c4 _ (zv s ns%zv s' ms) _ rr (aoH (aoG _) hb6.size) rfl hc4 HF.out.2).mono ?_;rintro e w7 ⟨A7,c7,rfl,zD,zI,hb7⟩;have X3:=V3.next hb7;have X4:=V4.next hb7;obtain ⟨k30,k31,Pn,Po⟩:=X3.facts;obtain ⟨zQ,zS,Pq,Pv⟩:=X4.facts;have hb8:=bK (bK hb4 hb6 (by have:=hb4.size;omega)) hb7 (by have:=hb4.size;have:=hb6.size;omega);have zH:=(qM.next hb7 hb6.size)
   go_wp2_with fail
   refine bodyPost_ret (v := .tuple #[.agg #[.bool (sg (zv s ns/zv s' ms)),.slice A6 (mg (zv s ns/zv s' ms)).length c6],.agg #[.bool (sg (zv s ns%zv s' ms)),.slice A7 (mg (zv s ns%zv s' ms)).length c7],.nilIface]) (by simp [results,Tryz.results173,go_sem,k30,k31,zQ,zS]) rfl ?_;have P3:=X3.put (.bool (sg (zv s ns/zv s' ms))) (.slice A6 (mg (zv s ns/zv s' ms)).length c6);have P4:=(X4.far (p:=⟨w.heap.size+1+1,0,none⟩) (by simp) (.bool (sg (zv s ns/zv s' ms)))).far (p:=⟨w.heap.size+1+1,1,none⟩) (by simp) (.slice A6 (mg (zv s ns/zv s' ms)).length c6);exact ⟨A6,c6,A7,c7,rfl,hc6,zD,((zH.gG X3 _ _).gG P4 _ _).more (by simp;exact aoH hb6.size hb7.size),((zI.gG X3 _ _).gG P4 _ _).more (by simp;exact aoH (aoH (aoG _) hb6.size) hb7.size),(((hb8.setCell (by simp;omega) _).setCell (by simp;omega) _).setCell (by simp;omega) _).setCell (by simp;omega) _⟩
  ·by_cases hR0:R=0
   ·have HF:Hid (zv s ns/zv s' ms=(if (!sg (zv s' ms))=true then -(Q:Int) else (Q:Int))/\zv s ns%zv s' ms=if false=true then -(R:Int) else (R:Int)):=Lib.hid (by obtain ⟨_,_,h3⟩:=HE.out;obtain ⟨h4,h5⟩:=h3 (.inr hR0);rw [hsn,Bool.true_bne] at h4;exact ⟨h4,h5⟩)
    have hl0:Hid ((bn R).length=0):=Lib.hid (by rw [hR0];rfl);have hbr:(0<(bn R).length)=False:=eq_false (by rw [hl0.out];omega);clear hR0 HE
    go_wp2_with fail
    refine (jL (!sg (zv s' ms)) A3 (Q) _ c3 _ (zv s ns/zv s' ms) _ hr3 (aoG _) rfl hc3 HF.out.1).mono ?_;rintro e w6 ⟨A6,c6,rfl,hc6,qM,hb6⟩;have V3:=(U3).next hb6;have V4:=(U4).next hb6;have rr:=(hr4).next hb6 (aoG _)
    go_wp2_with fail
    refine (jL false A4 (R) _ c4 _ (zv s ns%zv s' ms) _ rr (aoH (aoG _) hb6.size) rfl hc4 HF.out.2).mono ?_;rintro e w7 ⟨A7,c7,rfl,zD,zI,hb7⟩;have X3:=V3.next hb7;have X4:=V4.next hb7;obtain ⟨k30,k31,Pn,Po⟩:=X3.facts;obtain ⟨zQ,zS,Pq,Pv⟩:=X4.facts;have hb8:=bK (bK hb4 hb6 (by have:=hb4.size;omega)) hb7 (by have:=hb4.size;have:=hb6.size;omega);have zH:=(qM.next hb7 hb6.size)
    go_wp2_with fail
    refine bodyPost_ret (v := .tuple #[.agg #[.bool (sg (zv s ns/zv s' ms)),.slice A6 (mg (zv s ns/zv s' ms)).length c6],.agg #[.bool (sg (zv s ns%zv s' ms)),.slice A7 (mg (zv s ns%zv s' ms)).length c7],.nilIface]) (by simp [results,Tryz.results173,go_sem,k30,k31,zQ,zS]) rfl ?_;have P3:=X3.put (.bool (sg (zv s ns/zv s' ms))) (.slice A6 (mg (zv s ns/zv s' ms)).length c6);have P4:=(X4.far (p:=⟨w.heap.size+1+1,0,none⟩) (by simp) (.bool (sg (zv s ns/zv s' ms)))).far (p:=⟨w.heap.size+1+1,1,none⟩) (by simp) (.slice A6 (mg (zv s ns/zv s' ms)).length c6);exact ⟨A6,c6,A7,c7,rfl,hc6,zD,((zH.gG X3 _ _).gG P4 _ _).more (by simp;exact aoH hb6.size hb7.size),((zI.gG X3 _ _).gG P4 _ _).more (by simp;exact aoH (aoH (aoG _) hb6.size) hb7.size),(((hb8.setCell (by simp;omega) _).setCell (by simp;omega) _).setCell (by simp;omega) _).setCell (by simp;omega) _⟩
   ·have HF:Hid (zv s ns/zv s' ms=(if (!sg (zv s' ms))=true then -((Q+1:Nat):Int) else ((Q+1:Nat):Int))/\zv s ns%zv s' ms=if false=true then -(((zv s' ms).natAbs-R:Nat):Int) else (((zv s' ms).natAbs-R:Nat):Int)):=Lib.hid (by obtain ⟨_,h3,_⟩:=HE.out;obtain ⟨h4,h5⟩:=h3 hsn hR0;rw [hsn,Bool.true_bne] at h4;exact ⟨h4,h5⟩)
    have GM:=HE.out.1
    have hbr:0<(bn R).length:=by
     rcases aoT (bn R).length with h0 | h0
     ·exact absurd (iL.1 (aoU h0)) hR0
     ·omega
    have Ff:=Lib.hid GM;have vQ:=Lib.hid (bM Q);have vR:=Lib.hid (bM R);have G8:(bn R).length<=m:=aoH (fD (aoK GM (aoH (Ey s' ms) (aoZ (eu h'.bQ))))) (by rw [hm];exact aoG _);clear hR0 HE GM;have hone:=WH w3 113;have H7:=hb4.size
    go_wp2_with fail
    refine (add_any A3 (some ⟨w3.heap.size,0,none⟩) (bn Q) [1] _ 1 c3 1 w3.heap.size _ _ (hr3.alloc (aoG _) _) (hone.rd agU) (by simp) (aoG _) rfl rfl af af hc3 af).mono ?_;rintro e w4 ⟨A5,c5,rfl,hc5,iO,hb5⟩;rw [vQ.out,show val [1]=1 from rfl] at iO hc5 ⊢;have oU:=bK ((Below.refl w3.heap.size w3).alloc (aoG _) (.cells #[.int .u32 1] 113)) hb5 (by simp);have Z2:=U2.next oU;obtain ⟨i20,i21,j20,j21⟩:=Z2.facts;have hsz5:=oU.size
    go_wp2_with fail
    refine (JB A2 A4 (mg (zv s' ms)) (bn R) _ _ c2 c4 B' w3.heap.size _ (r2'.next oU af) (hr4.next oU (aoG _)) af af rfl rfl af af (by rw [eX,vR.out];exact aoZ Ff.out)).mono ?_;rintro e w5 ⟨A8,c8,rfl,hc8,kK,oV⟩;rw [eX,vR.out] at kK hc8 ⊢;have Y3:=(U3.next oU).next oV;have Y4:=(U4.next oU).next oV;have aad:=iO.next oV (aoG _);obtain ⟨o10,o11,p10,p11⟩:=((U1.next oU).next oV).facts;obtain ⟨o20,o21,p20,p21⟩:=((U2.next oU).next oV).facts;have GV:=bK (bK hb4 oU af) oV af
    go_wp2_with fail
    refine (jL (!sg (zv s' ms)) A5 (Q+1) _ c5 _ (zv s ns/zv s' ms) _ aad (by have:=hb5.size;have:=oV.size;omega) rfl hc5 HF.out.1).mono ?_;rintro e w6 ⟨A6,c6,rfl,hc6,qM,hb6⟩;have V3:=(Y3).next hb6;have V4:=(Y4).next hb6;have rr:=(kK).next hb6 (aoG _)
    go_wp2_with fail
    refine (jL false A8 ((zv s' ms).natAbs-R) _ c8 _ (zv s ns%zv s' ms) _ rr (aoH (aoG _) hb6.size) rfl hc8 HF.out.2).mono ?_;rintro e w7 ⟨A7,c7,rfl,zD,zI,hb7⟩;have X3:=V3.next hb7;have X4:=V4.next hb7;obtain ⟨k30,k31,Pn,Po⟩:=X3.facts;obtain ⟨zQ,zS,Pq,Pv⟩:=X4.facts;have hb8:=bK (bK GV hb6 (by have:=GV.size;omega)) hb7 (by have:=GV.size;have:=hb6.size;omega);have zH:=(qM.next hb7 (by have:=hb5.size;have:=oV.size;have:=hb6.size;omega))
    go_wp2_with fail
    refine bodyPost_ret (v := .tuple #[.agg #[.bool (sg (zv s ns/zv s' ms)),.slice A6 (mg (zv s ns/zv s' ms)).length c6],.agg #[.bool (sg (zv s ns%zv s' ms)),.slice A7 (mg (zv s ns%zv s' ms)).length c7],.nilIface]) (by simp [results,Tryz.results173,go_sem,k30,k31,zQ,zS]) rfl ?_;have P3:=X3.put (.bool (sg (zv s ns/zv s' ms))) (.slice A6 (mg (zv s ns/zv s' ms)).length c6);have P4:=(X4.far (p:=⟨w.heap.size+1+1,0,none⟩) (by simp) (.bool (sg (zv s ns/zv s' ms)))).far (p:=⟨w.heap.size+1+1,1,none⟩) (by simp) (.slice A6 (mg (zv s ns/zv s' ms)).length c6);exact ⟨A6,c6,A7,c7,rfl,hc6,zD,((zH.gG X3 _ _).gG P4 _ _).more (by simp;exact aoH (by have:=hb5.size;have:=oV.size;have:=hb6.size;omega) hb7.size),((zI.gG X3 _ _).gG P4 _ _).more (by simp;exact aoH (aoH (aoG _) hb6.size) hb7.size),(((hb8.setCell (by simp;omega) _).setCell (by simp;omega) _).setCell (by simp;omega) _).setCell (by simp;omega) _⟩
end Go.Proofs.BGQ
