/- Part of a proof, said shortly. -/
import Derived.Deep.LoopGhost
import Derived.Laws.IdiomStrings
import Derived.Lib.BufferRead
import Derived.Deep.RegionWith
import Derived.Deep.DeepCutAuto
import Derived.Test.YtmmgoghiiionfaaGreatDoorAlz
import Derived.Test.YtmmgoghiiionfaaGreatDoorC2
import Derived.Test.YtmmgoghiiionfaaGreatDoorC1
set_option linter.unusedVariables false
set_option linter.unusedSimpArgs false
namespace Lw
open Go Go.RowKit
def iU:Nat->Nat->List UInt8
 | 0,_=>[]
 | k+1,g=>iU k (g/10)++[UInt8.ofNat (48+g%10)]
theorem WW(k q g:Nat)(hq:0<q)(hg:g<10^k):Lib.decDigits (q*10^k+g)=Lib.decDigits q++iU k g:=by
 induction k generalizing g with
 | zero =>
  have:g=0:=af;subst this;simp [iU]
 | succ k ih =>
  have hp:q*10^(k+1)=q*10^k*10:=by grind
  have h1:1<=q*10^k:=ah8 hq (ahM af)
  rw [Lib.decDigits,dif_neg (by rw [hp];omega),show (q*10^(k+1)+g)/10=q*10^k+g/10 by rw [hp];omega,show (q*10^(k+1)+g)%10=g%10 by rw [hp];omega,
   ih (g/10) (by rw [ahL] at hg;omega),iU,ail]
def tl(gs:List Nat):List UInt8:=(gs.reverse.map (iU 9)).flatten
theorem SC:tl []=[]:=rfl
theorem ad1(gs:List Nat)(g:Nat):tl (gs++[g])=iU 9 g++tl gs:=by simp [tl]
theorem adY(gs:List Nat)(g:Nat):tl (g::gs)=tl gs++iU 9 g:=by simp [tl]
theorem byteCells_snoc(l:List UInt8)(b:UInt8):Lib.byteCells (l++[b])=Lib.byteCells l++[.int .u8 (b.toNat:Int)]:=by simp [Lib.byteCells]
theorem Xc{d:Nat}(h:d<10):((UInt8.ofNat (48+d)).toNat:Int)=48+(d:Int):=by
 have:(UInt8.ofNat (48+d)).toNat=48+d:=by
  rw [UInt8.toNat_ofNat'];omega
 omega
def ve(i u:Nat):Prop:=(i<=8/\u=10^(8-i))\/(i=9/\u=0)
theorem aeh:ve 0 100000000 := .inl ⟨af,by rfl⟩
theorem aeg{i:Nat}(h:ve i 0):i=9:=by
 rcases h with ⟨h,h1⟩ | ⟨h,_⟩
 ·grind
 ·exact h
theorem aei{i u:Nat}(h:ve i u)(hu:u≠0):ve (i+1) (u/10)/\i<=8:=by
 rcases h with ⟨h,h1⟩ | ⟨h,h1⟩
 ·refine ⟨?_,h⟩
  rcases ahs i 8 with h2 | h2
  ·left
   refine ⟨af,?_⟩;rw [h1,show 8-i=(8-(i+1))+1 from af,ahL,Nat.mul_div_cancel _ af]
  ·obtain rfl:i=8:=af
   right;omega
 ·omega
theorem aaH{i u g:Nat}(h:ve i u)(hu:u≠0):iU (i+1) (g/10^(9-(i+1)))=iU i (g/10^(9-i))++[UInt8.ofNat (48+g/u%10)]:=by
 rcases h with ⟨h,h1⟩ | ⟨h,h1⟩
 ·rw [iU,show 9-(i+1)=8-i from af,<- h1,aiM,h1,show 9-i=(8-i)+1 from af,ahL]
 ·omega
theorem aaF{g:Nat} : iU 9 (g/10^(9-9))=iU 9 g:=by simp
theorem aaG{g:Nat} : iU 0 (g/10^(9-0))=[]:=rfl
end Lw
namespace Go.Proofs.AZQ
open Go Go.RowKit Lw
theorem OZ:(Tryz.prog.info? 5).map (fun i=>(i.zero,i.size,i.bytes))=some (some (.int .u8 0),1,1):=ah
set_option maxRecDepth 100000 in
set_option maxHeartbeats 1600000 in
theorem Vs(Bt g:Nat)(l:List UInt8)(v:Value)(n:Nat)(w:World)(hown:w.ownsRow Bt 5 1 v n (Lib.byteCells l))(hB:Bt<=w.heap.size)(hn:n<=1099511627776)(hg:g<=4294967295) :
  Calls Tryz.prog 241 #[v,.int .u32 g] w fun e w' => ∃ v',e = .returned v'/\w'.ownsRow Bt 5 1 v' (n+9) (Lib.byteCells (l++iU 9 g))/\Below Bt w w'/\Lib.OthersKept 5 none w w':=by
 obtain ⟨i0,hi0,hz0,hz1,hz2⟩:=info_parts OZ
 go_enter Tryz.func241,Tryz.ntmps241
 go_wp2_with fail
 go_loopw [0,5] (fun tv uv wr => ∃ (i u:Nat),i<=9/\u<=100000000/\uv = .int .u32 u/\Hid (ve i u)/\wr.ownsRow Bt 5 1 tv (n+i) (Lib.byteCells (l++iU i (g/10^(9-i))))/\Below Bt w wr/\Lib.OthersKept 5 none w wr) (fun _ uv _=>(intOf uv).toNat)
 case atStart=>exact ⟨0,100000000,af,af,rfl,Lib.hid aeh,by rw [aaG,aiW];exact hown,Below.refl _ _,Lib.OthersKept.refl _ _ _⟩
 case round =>
  obtain ⟨i,u,hi,hu,rfl,hun,hown1,hb1,hk1⟩:=hrel;clear hown
  by_cases h0:u=0
  ·subst h0
   have h9:=aeg hun.out;subst h9;rw [aaF] at hown1
   go_wp2_with fail
   go_ret
   exact ⟨_,rfl,hown1,hb1,hk1⟩
  ·have hst:=aei hun.out h0
   have HS:=Lib.hid hst.1;have HP:=Lib.hid (aaH (g:=g) hun.out h0);have hi8:=hst.2;have hu1:1<=u:=af
   have hq:IntKind.u32.wrap ((g:Int)/(u:Int))=((g/u:Nat):Int):=by
    rw [<- aiZ];exact IntWalk.u32_in _ (by have:=ah0 g u;generalize g/u=Q at *;omega)
   have gB:g/u<=4294967295:=ahk (ah0 g u) hg;clear hst h0 hun;obtain ⟨Q,hQ⟩ : ∃ Q,Q=g/u:=⟨_,rfl⟩;rw [<- hQ] at hq gB HP;clear hQ;have hsz1:=hb1.size
   go_wp2_with (at_builtin;refine wpList_append_own _ rfl _ _ 140 rfl Bt 5 i0 _ 1 1 ag3 hi0 hz0 hz1 hz2 rfl ai _ (n+i) _ rfl (hown1.alloc _) ⟨wr.heap.size,0,none⟩ 1 1 [.int .u8 (48+(Q:Int)%10)] rfl rfl (World.news_of_block (cs := #[.int .u8 (48+(Q:Int)%10)]) (t:=5) (fr:=(0,0)) (heap_alloc_new wr _)) (by simp [Value.oneCell']) (by unfold maxLen;omega) af (by simp;omega) ?_;intro v' w1 hown2 hgrow2 hnil)
   have hgrow:(wr.alloc (.cells #[.int .u8 (48+(Q:Int)%10)] 5)).grownBy w1 u0.ownBlock:=hgrow2;have hd:=Xc (d:=Q%10) (aht _ af);have HD:Hid ([Value.int .u8 (48+(Q:Int)%10)]=[Value.int .u8 ((UInt8.ofNat (48+Q%10)).toNat:Int)]):=Lib.hid (by rw [hd];simp);clear hgrow2 hnil hd
   go_roundw
   case rel =>
    refine ⟨i+1,u/10,af,af,by go_num,HS,?_,(hb1.alloc af _).grown hgrow (by simp;omega) (fun k hk=>(hown1.lt k hk).1),(hk1.alloc _).grown hgrow (Lib.ownsRow_kind (hown1.alloc _))⟩;rw [HP.out,<- ail,byteCells_snoc,<- HD.out];exact hown2
   case measure=>simp [intOf];omega
end Go.Proofs.AZQ
namespace Lw
open Go Go.RowKit
section
variable {gs ns:List Nat} {xs:List Value} {M N base g m n size:Nat} {e t:TypeId} {v:Value} {w w':World}
def Parts(N M:Nat)(gs:List Nat):Prop:=Lib.decDigits N=Lib.decDigits M++tl gs/\M*2^gs.length<=N/\(∀ x∈gs,x<=999999999)
theorem aaJ(N:Nat):Parts N N []:=⟨by simp [SC],by simp,fun x h=>by cases h⟩
theorem aaK(h:Parts N M gs)(hM:4294967296<=M):Parts N (M/1000000000) (gs++[M%1000000000])/\1<=M/1000000000/\M/1000000000<M:=by
 refine ⟨⟨?_,?_,?_⟩,af,af⟩
 ·rw [h.1,ad1,<- ail]
  congr 1
  have:=WW 9 (M/1000000000) (M%1000000000) af (by simp only [Nat.reducePow];omega);grind
 ·rw [List.length_append,List.length_singleton,ahL]
  have h1:M/1000000000*(2^gs.length*2)=(M/1000000000*2)*2^gs.length:=by grind
  rw [h1];exact ahk (ahp _ af) h.2.1
 ·intro x hx
  rw [aio,ahG] at hx;rcases hx with hx | hx
  ·exact h.2.2 x hx
  ·omega
theorem aa0(n:Nat):pw n=2^(32*n):=by unfold pw;rw [aiC]
theorem Qh(h:Parts N M gs)(hM:1<=M)(hN:N<pw n):gs.length<32*n:=by
 rw [aa0] at hN;have h1:=ahp (2^gs.length) hM;have h2:2^gs.length<2^(32*n):=by have:=h.2.1;omega
 exact (Nat.pow_lt_pow_iff_right af).1 h2
theorem aaL(h:Parts N M gs):bF gs:=fun x hx=>by have:=h.2.2 x hx;omega
theorem byteCells_append(a b:List UInt8):Lib.byteCells (a++b)=Lib.byteCells a++Lib.byteCells b:=by simp [Lib.byteCells]
theorem adZ(gs:List Nat){j:Nat}(h:j<gs.length):tl (gs.drop j)=tl (gs.drop (j+1))++iU 9 (dg gs j):=by
 rw [aiq h,adY,lU h]
theorem Qd(h:w.ownsRow base e 1 v n (arr ns))(hw:bF ns) : ∃ A c,v = .slice A n c/\Rd w w.heap.size A ns/\ns.length=n:=by
 have hl:=h.1;rw [jJ,ahJ] at hl
 by_cases hv:v = .slice none 0 0
 ·subst hv
  have:n=0:=by
   rcases h.2 with ⟨_,h0⟩ | ⟨g,cap,cur,hv',_⟩
   ·exact h0
   ·cases hv'
  subst this;exact ⟨none,0,rfl,by rw [ahB hl];exact Rd.nil_ _ _ _,hl⟩
 ·obtain ⟨g,c,rfl,_,_,hb⟩:=yV h hv
  exact ⟨_,c,rfl,hb.rd hw,hl⟩
theorem own_below(h:w.ownsRow base e size v n xs)(hb:Below w.heap.size w w'):w'.ownsRow base e size v n xs :=
 h.kept (row:=none) ⟨hb.os,hb.tape,hb.output,hb.size,fun k hk _=>hb.block k hk⟩ (by
  rcases h.2 with ⟨rfl,_⟩ | ⟨g,cap,cur,rfl,_⟩
  ·exact .inl rfl
  ·exact .inr (by simp [Value.ownBlock]))
theorem aaE(h:w.ownsRow base e size v n xs)(hg:w.grownBy w' (some g))(hlt:g<base):w'.ownsRow base e size v n xs :=
 h.kept hg (by
  rcases h.2 with ⟨rfl,_⟩ | ⟨g',cap,cur,rfl,hb,_⟩
  ·exact .inl rfl
  ·exact .inr (by simp [Value.ownBlock];omega))
theorem VV(h:bD w g t ns)(ho:w.ownsRow base e size v n xs)(hg:w.grownBy w' v.ownBlock)(hlt:g<base):bD w' g t ns :=
 h.of_same (hg.block g h.lt (fun e=>by have:=(ho.lt g e.symm).1;omega))
theorem WX(h:(bg M).length=m)(hm:m<=1):dg (bg M) 0=M:=by
 have e1:=di (l:=bg M) (k:=1) af;rw [bV,fM,lG,bG] at e1;omega
theorem ad8(h:(bg M).length=m)(hm:1<m):4294967296<=M:=by
 have:=xP (fB M) (by intro e;rw [e] at h;simp at h;omega);rw [bG] at this;have h2:pw 1<=pw ((bg M).length-1):=dY af;have h3:pw 1=4294967296:=rfl;omega
theorem yZ(k u:Nat)(h:u<10^(k+1)):(Lib.decDigits u).length<=k+1:=by
 induction k generalizing u with
 | zero=>rw [Lib.decDigits,dif_pos (by simpa using h)];simp
 | succ k ih =>
  rw [Lib.decDigits];grind
def Gr(t:TypeId)(w:World)(A:Option Addr)(gs:List Nat):Prop:=gs=[] \/ ∃ g,A=some ⟨g,0,none⟩/\bD w g t gs
theorem Gr.rd{t:TypeId}{w:World}{A:Option Addr}{gs:List Nat}(h:Gr t w A gs)(hw:bF gs):Rd w w.heap.size A gs:=by
 rcases h with rfl | ⟨g,rfl,h⟩
 ·exact Rd.nil_ _ _ _
 ·exact h.rd hw
theorem Gr.others{A:Option Addr}(h:Gr t w A gs)(hk:Lib.OthersKept e none w w')(ht:t≠e):Gr t w' A gs:=by
 rcases h with rfl | ⟨g,rfl,rest,h⟩
 ·exact .inl rfl
 ·exact .inr ⟨g,rfl,rest,hk g _ h (by simp) (fun c fz e=>by cases e;exact ht rfl)⟩
theorem Gr.drewN{t:TypeId}{w:World}{A:Option Addr}{gs:List Nat}(h:Gr t w A gs)(k:Nat):Gr t (w.drewN k) A gs:=h
theorem aaD(h:w.ownsRow base e 1 v n (arr ns)) : ∃ A c,v = .slice A n c/\Gr e w A ns:=by
 by_cases hv:v = .slice none 0 0
 ·subst hv
  have:n=0:=by
   rcases h.2 with ⟨_,h0⟩ | ⟨g,cap,cur,hv',_⟩
   ·exact h0
   ·cases hv'
  subst this;have hl:=h.1;rw [jJ,ahJ] at hl;exact ⟨none,0,rfl,.inl (ahB hl)⟩
 ·obtain ⟨g,c,rfl,_,_,hb⟩:=yV h hv
  exact ⟨_,c,rfl,.inr ⟨g,rfl,hb⟩⟩
end
end Lw
namespace Go.Proofs.AZQ
open Go Go.RowKit Lw
def Tab(w:World):Prop:=Lib.TabIs Tryz.prog w "internal/strconv.uint64pow10" .u64 Lib.pow10Tab
theorem Tab.next{w w':World}(h:Tab w)(hb:Below w.heap.size w w'):Tab w':=Lib.tabBelow_of_tabIs h w' hb
theorem Vu(B n u:Nat)(hu:u<18446744073709551616)(sv:Value)(xs:List Value)(w:World)(hown:w.ownsRow B 5 1 sv n xs)(hBw:B<=w.heap.size)(hlim:n<=1099511627776)(ht:Tab w) :
  Calls Tryz.prog 263 #[sv,.int .u64 u,.int .i64 10] w fun e w' => ∃ v',e = .returned v'/\w'.ownsRow B 5 1 v' (n+(Lib.decDigits u).length) (xs++Lib.byteCells (Lib.decDigits u))/\Below B w w'/\Lib.OthersKept 5 none w w':=by
 rcases ahs u 100 with h | h
 ·exact Tryz.internal_strconv_AppendUint_10_small B n u h sv xs w hown hBw af
 ·exact Tryz.internal_strconv_AppendUint_10_big B n u h hu sv xs w hown hBw af ht
theorem aeD(B n u:Nat)(hu:u<18446744073709551616)(sv:Value)(xs:List Value)(w:World)(hown:w.ownsRow B 5 1 sv n xs)(hBw:B<=w.heap.size)(hlim:n<=1099511627776)(ht:Tab w) :
  Calls Tryz.prog 239 #[sv,.int .u64 u,.int .i64 10] w fun e w' => ∃ v',e = .returned v'/\w'.ownsRow B 5 1 v' (n+(Lib.decDigits u).length) (xs++Lib.byteCells (Lib.decDigits u))/\Below B w w'/\Lib.OthersKept 5 none w w':=by
 go_enter Tryz.func239,Tryz.ntmps239
 go_wp2_with fail
 refine (Vu B n u hu sv xs w hown hBw hlim ht).mono ?_;rintro e w1 ⟨v',rfl,h1,h2,h3⟩
 go_wp2_with fail
 go_ret
 exact ⟨_,rfl,h1,h2,h3⟩
set_option maxRecDepth 100000 in
set_option maxHeartbeats 3200000 in
theorem KQ(Bt N:Nat)(l:List UInt8)(v:Value)(nt:Nat)(A:Option Addr)(n c B:Nat)(w:World)(hown:w.ownsRow Bt 5 1 v nt (Lib.byteCells l))(hBt:Bt<=w.heap.size)(hnt:nt<=65536)(h:Rd w B A (bg N))(hB:B<=w.heap.size)(hn:(bg N).length=n)(hl:n<=8388608)(ht:Tab w) :
  Calls Tryz.prog 192 #[v,.slice A n c] w fun e w' => ∃ v' k,e = .returned v'/\w'.ownsRow Bt 5 1 v' k (Lib.byteCells (l++Lib.decDigits N))/\Below Bt w w':=by
 have Hn:=Lib.hid hn;clear hn;have J5:Hid (N<pw n):=Lib.hid (by rw [<- Hn.out];exact mG (ahj _))
 go_enter Tryz.func192,Tryz.ntmps192
 go_wp2_with fail
 refine (clone_any A (bg N) _ _ B _ h hB Hn.out af).mono ?_;rintro e w1 ⟨A1,c1,rfl,hc1,hg1,hr1,hb1⟩;have ht1:=ht.next hb1;have J6:=Lib.hid hown;have HT:=Lib.hid ht;clear hown ht1 ht h
 go_wp2_with fail
 go_loopg [5,6] N (fun M gv rv wr => ∃ (gs:List Nat) (k:Nat) (A6:Option Addr) (m c6:Nat),rv = .slice A6 m c6/\m<=c6/\m<=n/\Hid ((bg M).length=m)/\(0<m -> ∃ g,A6=some ⟨g,0,none⟩/\w.heap.size<=g/\g<w1.heap.size/\bD wr g 82 (bg M)) /\
   wr.ownsRow w1.heap.size 82 1 gv k (arr gs)/\Hid (Parts N M gs)/\Hid (gs=[]\/1<=M)/\Below w.heap.size w wr/\w1.heap.size<=wr.heap.size)
 case atStart =>
  refine ⟨[],0,A1,n,c1,rfl,hc1,ahj _,Hn,?_,World.ownsRow_nil _ _ _ _,Lib.hid (aaJ N),Lib.hid (.inl rfl),hb1,ahj _⟩;intro h0;obtain ⟨g,h1,h2,h3⟩:=hg1 h0;exact ⟨g,h1,h2,h3.lt,h3⟩
 case round =>
  obtain ⟨gs,k,A6,m,c6,rfl,hc6,hmn,hm,hblk6,ug,hparts,hone,hbw,afq⟩:=hrel
  by_cases hm1:1<m
  ·obtain ⟨g,rfl,hg0,hgl,hblk⟩:=hblk6 af
   have HM:=Lib.hid (ad8 hm.out hm1);have HS:=Lib.hid (aaK hparts.out HM.out);have hk:=ug.1;rw [jJ,ahJ] at hk;have HK:=Lib.hid hk;have hkl:k<=268435456:=by have:=Qh hparts.out (by have:=HM.out;omega) J5.out;omega
   clear hblk6 hk
   go_wp2_with fail
   refine (Md g 1000000000 (bg gk) _ c6 _ hblk (dD _) hm.out af af af af).mono ?_;rintro e w3 ⟨ds,rfl,hblk3,hw3,hl3,hv3,hg3,hs3⟩;rw [bG] at hv3 ⊢;obtain ⟨R,hR⟩ : ∃ R,R=gk%1000000000:=⟨_,rfl⟩;rw [<- hR] at HS ⊢;have hRl:R<=999999999:=af;clear hR;obtain ⟨Q,hQ⟩ : ∃ Q,Q=gk/1000000000:=⟨_,rfl⟩;rw [<- hQ] at HS hv3;clear hQ;have hb4:=below_of_grown hbw hg3 af hg0;have zW:=aaE ug hg3 hgl;have yM:=Lib.hid hv3;have Ec:=Lib.hid hl3;have hsz3:w1.heap.size<=w3.heap.size:=af;clear hblk ug hg3 hv3 hl3 hs3;have pG:=(bD.new w3 82 [R]).rd (by rw [kF];exact ⟨af,jV⟩)
   go_wp2_with (at_builtin;refine Dy _ rfl _ _ 38 rfl w1.heap.size 82 agv jI _ k gs rfl (zW.alloc _) _ _ [R] 1 1 rfl pG rfl af (by simp;omega) ?_;intro v' w4 hown4 hgrow4 hnil)
   have hgrow:(w3.alloc (.cells #[.int .u32 (R:Int)] 82)).grownBy w4 u5.ownBlock:=hgrow4;have tZ:=VV (hblk3.alloc (.cells #[.int .u32 (R:Int)] 82)) (zW.alloc _) hgrow hgl;have OH:=hgrow.size;have OE:w1.heap.size<=w4.heap.size:=by simp at OH;omega
   have hb5:Below w.heap.size w w4:=(hb4.alloc af _).grown hgrow (by simp;omega) (fun k hk=>by have:=(zW.lt k hk).1;omega);have lg:=tZ.rd hw3;clear hgrow4 hnil zW hgrow OH pG;refine (rX _ ds _ c6 _ _ lg Ec.out hc6 af).mono ?_;rintro e w5 ⟨rfl,rfl⟩;rw [yM.out]
   go_wp2_with fail
   go_roundg Q
   case measure=>exact HS.out.2.2
   case rel =>
    refine ⟨gs++[R],k+1,_,(bg Q).length,c6,rfl,?_,?_,Lib.hid rfl,fun _=>⟨g,rfl,hg0,hgl,?_⟩,hown4,Lib.hid HS.out.1,Lib.hid (.inr HS.out.2.1),hb5,OE⟩
    ·have:=kU hw3;rw [yM.out,Ec.out] at this;omega
    ·have:=kU hw3;rw [yM.out,Ec.out] at this;omega
    ·have:=tZ.bg hw3;rw [yM.out] at this;exact this
  ·have Oj:Rd wr wr.heap.size A6 (bg gk):=by
    rcases ahE m with h0 | h0
    ·have e0:bg gk=[]:=ahB (by rw [hm.out];exact h0)
     rw [e0];exact Rd.nil_ _ _ _
    ·obtain ⟨g,rfl,_,_,hblk⟩:=hblk6 h0
     exact hblk.rd (dD _)
   have HD0:Hid (wd (bg gk) 0=gk):=Lib.hid (by have:=jD (bg gk) 0;rw [WX hm.out af] at this;exact this);have hgk:gk<4294967296:=by have:=oO (dD gk) 0;rw [HD0.out] at this;exact this
   have hk:=ug.1;rw [jJ,ahJ] at hk
   have hkl:k<=268435456:=by
    rcases hone.out with h0 | h0
    ·rw [h0] at hk;simp at hk;omega
    ·have:=Qh hparts.out h0 J5.out;omega
   have HK:=Lib.hid hk;have hown5:=own_below J6.out hbw;have OJ:=HT.out.next hbw;have J7:=Lib.hid hown5;have J8:=Lib.hid OJ;have UH:=Lib.hid hparts.out.1;have hgw:bF gs:=aaL hparts.out;clear hblk6 hk hown5 OJ
   go_wp2_with fail
   refine (oP A6 (bg gk) _ c6 _ 0 _ Oj hm.out af).mono ?_;rintro e w3 ⟨rfl,rfl⟩;rw [HD0.out]
   go_wp2_with fail
   have Zq:=hbw.size;refine (aeD Bt nt gk af v _ _ J7.out af af J8.out).mono ?_;rintro e w3 ⟨v3,rfl,hown3,hb3,hk3⟩;have Ut:(Lib.decDigits gk).length<=10:=yZ 9 gk (by simp only [Nat.reduceAdd,Nat.reducePow];omega);obtain ⟨D,hD⟩ : ∃ D,D=(Lib.decDigits gk).length:=⟨_,rfl⟩;rw [<- hD] at Ut hown3;clear hD;obtain ⟨A5,c5,rfl,hgr⟩:=aaD ug;have NT:=hgr.others hk3 ai;have hb6:Below Bt w w3:=(hbw.mono hBt).trans hb3;clear hgr ug hk3 hb3 hb1 hr1 hg1 J6 J7 HT J8 Oj;rw [<- byteCells_append] at hown3
   go_wp2_with fail
   go_loopw [0,7] (fun tv iv wr' => ∃ (i:Int) (q:Nat),-1<=i/\i<k/\iv = .int .i64 i/\(q:Int)+9*(i+1)=nt+D+9*k /\
     wr'.ownsRow Bt 5 1 tv q (Lib.byteCells (l++Lib.decDigits gk++tl (gs.drop (i+1).toNat)))/\Below Bt w wr'/\Gr 82 wr' A5 gs) (fun _ iv _=>(intOf iv+1).toNat)
   case atStart =>
    refine ⟨(k:Int)-1,nt+D,af,af,rfl,af,?_,?_,?_⟩
    ·rw [show ((k:Int)-1+1).toNat=k from af,aiA (by rw [HK.out];exact ahj _),SC,aiW]
     exact hown3
    ·exact hb6
    ·exact NT
   case round =>
    obtain ⟨i,q,hi0,hi1,rfl,hq,hown4,hb7,NU⟩:=hrel;clear hown3 hb6 NT
    by_cases hi:0<=i
    ·obtain ⟨j,rfl⟩:=aif hi
     rw [show ((j:Int)+1).toNat=j+1 by omega] at hown4;obtain ⟨b,off,rfl,hb,hcell,hlt⟩:=(NU.rd hgw).at_ (k:=j) (by rw [HK.out];omega);have J9:=Lib.hid (adZ gs (j:=j) (by rw [HK.out];omega));have afo:=hb7.size;obtain ⟨G,hG⟩ : ∃ G,G=dg gs j:=⟨_,rfl⟩;rw [<- hG] at J9 hcell hlt;clear hG hi
     go_wp2_with fail
     refine (Vs Bt G _ u0 q _ hown4 af af af).mono ?_;rintro e w4 ⟨v4,rfl,hown5,hb8,hk8⟩
     go_wp2_with fail
     go_roundw
     case rel =>
      refine ⟨(j:Int)-1,q+9,af,af,rfl,af,?_,hb7.trans hb8,NU.others hk8 ai⟩;rw [show ((j:Int)-1+1).toNat=j from af,J9.out,<- ail];exact hown5
     case measure=>simp [intOf]
    ·obtain rfl:i = -1:=af
     have HD:Hid (Lib.decDigits gk++tl (gs.drop (-1+1:Int).toNat)=Lib.decDigits N):=Lib.hid (by rw [UH.out];rfl)
     go_wp2_with fail
     go_ret
     refine ⟨u0,rfl,⟨q,?_⟩,hb7⟩;rw [<- HD.out,<- ail];exact hown4
end Go.Proofs.AZQ
namespace Lw
open Go Go.RowKit
theorem itoa_neg{z:Int}(h:sg z=true):Lib.itoa z=[45]++Lib.decDigits z.natAbs:=by
 have:=RZ h;unfold Lib.itoa;rw [if_pos af];rfl
theorem Ah{z:Int}(h:sg z=false):Lib.itoa z=[]++Lib.decDigits z.natAbs:=by
 have:=RU h;unfold Lib.itoa;rw [if_neg af,show z.toNat=z.natAbs by omega];rfl
theorem LW(u:Nat):0<(Lib.decDigits u).length:=by
 rw [Lib.decDigits];grind
theorem Qe{P:Program}{w:World}{base n:Nat}{e src dst:TypeId}{v:Value}{l:List UInt8}(h:w.ownsRow base e 1 v n (Lib.byteCells l))(hl:0<l.length)(hs:P.underlying src=some (.slice e))(he:P.underlying e=some (.int .u8))(hd:P.underlying dst=some .string) :
  ∃ g c,v = .slice (some ⟨g,0,none⟩) l.length c/\(convert src dst (.slice (some ⟨g,0,none⟩) l.length c)).run P w = .ok (.string ⟨l.toArray⟩) w:=by
 have h1:=h.1;rw [Lib.byteCells_length,ahJ] at h1;rcases h.2 with ⟨_,h0⟩ | ⟨g,cap,cur,hv',hb,hg,hnc,hcm,hcs,htake⟩
 ·omega
 ·refine ⟨g,cap,by rw [hv',h1],run_convert_bytes_back w src dst e ⟨g,0,none⟩ cap l hs he hd fun j hj => ?_⟩
  have ha:(⟨g,0,none⟩:Addr).add j=⟨g,j,none⟩:=by unfold Addr.add;split <;> simp_all
  rw [ha,cell_of_row w g j _ e (0,0) hg]
  have:cur.toList[j]? = (Lib.byteCells l)[j]? := by
   rw [<- htake,List.getElem?_take_of_lt af]
  rw [<- ais,this];simp [Lib.byteCells,hj]
end Lw
namespace Go.Proofs.AZQ
open Go Go.RowKit Lw
theorem Tc:Tryz.prog.underlying 140=some (.slice 5):=ah
theorem S9:Tryz.prog.underlying 5=some (.int .u8):=ah
theorem Td:Tryz.prog.underlying 9=some .string:=ah
set_option maxRecDepth 100000 in
set_option maxHeartbeats 1600000 in
theorem adU(s:Bool)(A:Option Addr)(ns:List Nat)(n c B:Nat)(w:World)(h:Rd w B A ns)(hB:B<=w.heap.size)(hn:ns.length=n)(hl:n<=8388608)(hc:n<=c)(ht:Tab w) :
  Calls Tryz.prog 128 #[.agg #[.bool s,.slice A n c]] w fun e w'=>e = .returned (.string ⟨(Lib.itoa (zv s ns)).toArray⟩)/\Below w.heap.size w w':=by
 have hlz:=vK (s:=s) h.bI;rw [hn] at hlz;have hk:=fun W hR hB'=>GL s A ns n c B W hR hB' hn af hc;generalize zv s ns=z at *;have Hk:=Lib.hid hk;have HT:=Lib.hid ht;obtain ⟨i0,hi0,hz0,hz1,hz2⟩:=info_parts OZ;clear hk ht
 go_enter Tryz.func128,Tryz.ntmps128
 go_wp2_with fail
 refine (Hk.out _ (h.alloc hB _) (by simp;omega)).mono ?_;rintro e w1 ⟨A1,c1,rfl,hc1,hr1,hb1⟩;obtain ⟨t1,hs1,hb2⟩:=box1 hb1;have T1:=t1.put (.bool (sg z)) (.slice A1 (mg z).length c1);have R1:=hr1.lF t1 (sg z) (.slice A1 (mg z).length c1);have hb3:=(hb2.setCell (p:=⟨w.heap.size,0,none⟩) (ahj _) (.bool (sg z))).setCell (p:=⟨w.heap.size,1,none⟩) (ahj _) (.slice A1 (mg z).length c1);obtain ⟨c10,c11,f10,f11⟩:=t1.facts;obtain ⟨d10,d11,g10,g11⟩:=T1.facts
 cases hsg:sg z
 ·have HI:=Lib.hid (Ah hsg)
  go_wp2_with fail
  rw [hsg] at R1 hb3;refine (KQ w.heap.size z.natAbs [] _ 0 A1 (mg z).length c1 B _ (World.ownsRow_nil _ _ _ _) hb3.size af R1 (by simp;omega) rfl af (HT.out.next hb3)).mono ?_;rintro e w2 ⟨v2,k2,rfl,hown2,hb4⟩;rw [<- HI.out] at hown2;obtain ⟨g,c2,rfl,hrun⟩:=Qe (P:=Tryz.prog) hown2 (by rw [HI.out];have:=LW z.natAbs;simp;omega) Tc S9 Td;have FT:=hb3.trans hb4;clear hown2 hb4 hb3
  go_wp2_with fail
  go_ret
  exact ⟨rfl,FT⟩
 ·have HI:=Lib.hid (itoa_neg hsg)
  rw [hsg] at R1 hb3 T1 d10 d11 g10 g11;have hszA:=hb3.size;have hown0:=World.ownsRow_nil ((w1.setCell ⟨w.heap.size,0,none⟩ (.bool true)).setCell ⟨w.heap.size,1,none⟩ (.slice A1 (mg z).length c1)) w.heap.size 5 1;have hnew:=heap_alloc_new ((w1.setCell ⟨w.heap.size,0,none⟩ (.bool true)).setCell ⟨w.heap.size,1,none⟩ (.slice A1 (mg z).length c1)) (.cells #[.int .u8 45] 5);rw [World.size_setCell,World.size_setCell] at hnew
  go_wp2_with (at_builtin;go_loud (refine wpList_append_own _ rfl _ _ 140 rfl w.heap.size 5 i0 _ 1 1 ag3 hi0 hz0 hz1 hz2 rfl ai _ 0 _ rfl (hown0.alloc _) ⟨w1.heap.size,0,none⟩ 1 1 [.int .u8 45] rfl rfl (World.news_of_block (cs := #[.int .u8 45]) (t:=5) (fr:=(0,0)) hnew) (by simp [Value.oneCell']) (by unfold maxLen;omega) af (by simp;omega) ?_);intro v' w2 hown2 hgrow2 hnil;have hgrow:(((w1.setCell ⟨w.heap.size,0,none⟩ (.bool true)).setCell ⟨w.heap.size,1,none⟩ (.slice A1 (mg z).length c1)).alloc (.cells #[.int .u8 45] 5)).grownBy w2 none:=hgrow2;have T2:Two w2 w.heap.size _ _ _:=(hgrow.block w.heap.size (by simp;omega) (by simp)).trans (T1.alloc _);obtain ⟨d20,d21,g20,g21⟩:=T2.facts)
  have hb4:=(hb3.alloc af (.cells #[.int .u8 45] 5)).grown hgrow (by simp;omega) (fun k hk=>by simp at hk);have R2:=R1.below (((Below.refl B _).alloc (by simp;omega) (.cells #[.int .u8 45] 5)).grown hgrow (by simp;omega) (fun k hk=>by simp at hk));have hown:w2.ownsRow w.heap.size 5 1 v' 1 (Lib.byteCells [45]):=hown2;refine (KQ w.heap.size z.natAbs [45] _ 1 A1 (mg z).length c1 B _ hown hb4.size af R2 (by have:=hb4.size;omega) rfl af (HT.out.next hb4)).mono ?_;rintro e w3 ⟨v3,k3,rfl,hown3,hb5⟩;rw [<- HI.out] at hown3;obtain ⟨g,c3,rfl,hrun⟩:=Qe (P:=Tryz.prog) hown3 (by rw [HI.out];have:=LW z.natAbs;simp) Tc S9 Td;have FT:=hb4.trans hb5;clear hown3 hb5 hb4 hb3 hown hown2 hgrow2 hgrow hown0
  go_wp2_with fail
  go_ret
  exact ⟨rfl,FT⟩
end Go.Proofs.AZQ
namespace Lw
theorem MC{a b q r:Int}(hb:b≠0)(h:r+b*q=a)(h0:0<=r)(h1:r<b.natAbs):a/b=q/\a%b=r:=by
 rcases Int.lt_or_gt_of_ne hb with h2 | h2
 ·rw [Int.ediv_emod_unique' h2];exact ⟨h,h0,af⟩
 ·rw [Int.ediv_emod_unique h2];exact ⟨h,h0,af⟩
theorem Xy{z z':Int}(h:z'≠0) :
  z.natAbs%z'.natAbs<z'.natAbs /\
  (sg z=true->z.natAbs%z'.natAbs≠0->z/z'=sv (sg z != sg z') (z.natAbs/z'.natAbs+1)/\z%z'=((z'.natAbs-z.natAbs%z'.natAbs:Nat):Int)) /\
  ((sg z=false\/z.natAbs%z'.natAbs=0)->z/z'=sv (sg z != sg z') (z.natAbs/z'.natAbs)/\z%z'=((z.natAbs%z'.natAbs:Nat):Int)):=by
 have hpos:0<z'.natAbs:=af;have hR:=aht z.natAbs hpos;have hdm:=Nat.mod_add_div z.natAbs z'.natAbs;have e1:=uS z;have e2:=uS z';rw [fU] at e1 e2;generalize z.natAbs%z'.natAbs=R at *;generalize z.natAbs/z'.natAbs=Q at *;generalize hN:z.natAbs=N at *;generalize hM:z'.natAbs=M at *;have hc:(N:Int)=(R:Int)+(M:Int)*(Q:Int):=by rw [<- hdm];simp
 generalize hx:(M:Int)*(Q:Int)=x at hc;refine ⟨hR,?_,?_⟩
 ·intro h1 h2
  rw [h1] at e1 ⊢
  cases hs:sg z' <;> rw [hs] at e2 <;> simp at e1 e2 <;> refine MC h ?_ af af
  ·simp only [sv];rw [e2];simp only [Bool.true_bne,Bool.not_false,if_true]
   rw [Int.mul_neg,aiD,Int.mul_add,hx];simp;omega
  ·simp only [sv];rw [e2];simp
   rw [ait,Int.mul_add,hx];omega
 ·intro h1
  cases hs:sg z' <;> rw [hs] at e2 <;> cases hs1:sg z <;> rw [hs1] at e1 h1 <;> simp at e1 e2 h1 <;> refine MC h ?_ af af <;> simp [sv] <;> rw [e2] <;> simp only [ait,Int.mul_neg,hx] <;> omega
end Lw
namespace Go.Proofs.AZQ
open Go Go.RowKit Lw
set_option maxHeartbeats 800000 in
theorem Cf(s:Bool)(A:Option Addr)(ns:List Nat)(n c B:Nat)(w:World)(h:Rd w B A ns)(hB:B<=w.heap.size)(hn:ns.length=n)(hl:n<=16777216) :
  Calls Tryz.prog 245 #[.agg #[.bool s,.slice A n c]] w fun e w'=>e = .returned (.bool (vB s ns))/\Below w.heap.size w w':=by
 have Hn:=Lib.hid hn;clear hn
 by_cases h0:n=0
 ·subst h0
  go_enter Tryz.func245,Tryz.ntmps245
  go_wp2
  go_ret
  refine ⟨iW ?_,?_⟩
  ·unfold vB;rw [if_pos Hn.out]
  ·exact (Below.refl _ _).alloc (ahj _) _
 ·obtain ⟨b,off,rfl,hb,hcell,hlt⟩:=h.at_ (k:=n-1) (by rw [Hn.out];omega)
  have hb1:((n:Int)==0)=false:=by simp;omega
  have hbs:b<w.heap.size:=af
  go_enter Tryz.func245,Tryz.ntmps245
  go_wp2
  go_ret
  refine ⟨iW ?_,(Below.refl _ _).alloc (ahj _) _⟩;unfold vB;rw [if_neg (by rw [Hn.out];exact h0),Hn.out,Bool.eq_iff_iff,bne_iff_ne,bne_iff_ne];exact not_congr aiX
set_option maxHeartbeats 800000 in
theorem GU(s:Bool)(A:Option Addr)(ns:List Nat)(n c B:Nat)(w:World)(h:Rd w B A ns)(hB:B<=w.heap.size)(hn:ns.length=n)(hl:n<=16777216)(hc:n<=c) :
  Calls Tryz.prog 196 #[.agg #[.bool s,.slice A n c]] w fun e w' => ∃ A' c',e = .returned (.slice A' (mg (zv s ns)).length c')/\(mg (zv s ns)).length<=c'/\Rd w' B A' (mg (zv s ns))/\Below w.heap.size w w':=by
 cases hv:vB s ns
 ·have hz:Hid (zv s ns=0):=Lib.hid (by unfold zv;rw [hv];rfl)
  go_enter Tryz.func196,Tryz.ntmps196
  go_wp2_with fail
  refine (Cf s A ns n c B _ (h.alloc hB _) (by simp;omega) hn hl).mono ?_;rintro e w1 ⟨rfl,hb1⟩;obtain ⟨t1,hs1,hb2⟩:=box1 hb1;obtain ⟨c10,c11,f10,f11⟩:=t1.facts
  go_wp2_with fail
  go_ret
  rw [hz.out];exact ⟨none,0,rfl,ahj _,Rd.nil_ _ _ _,hb2⟩
 ·have hz:Hid (zv s ns=if s then -(val ns:Int) else (val ns:Int)):=Lib.hid (by unfold zv;rw [hv];rfl)
  have Hv:=Lib.hid hv
  go_enter Tryz.func196,Tryz.ntmps196
  go_wp2_with fail
  refine (Cf s A ns n c B _ (h.alloc hB _) (by simp;omega) hn hl).mono ?_;rintro e w1 ⟨rfl,hb1⟩;obtain ⟨t1,hs1,hb2⟩:=box1 hb1;obtain ⟨c10,c11,f10,f11⟩:=t1.facts
  go_wp2_with fail
  go_ret
  obtain ⟨e1,e2,e3⟩:=qy Hv.out hz.out h.bI;rw [e2,hn];exact ⟨A,c,rfl,hc,h.below (hb2.mono hB),hb2⟩
set_option maxHeartbeats 800000 in
theorem Il(s:Bool)(A:Option Addr)(ns:List Nat)(n c B:Nat)(w:World)(h:Rd w B A ns)(hB:B<=w.heap.size)(hn:ns.length=n)(hl:n<=16777216) :
  Calls Tryz.prog 197 #[.agg #[.bool s,.slice A n c]] w fun e w'=>e = .returned (.bool (sg (zv s ns)))/\Below w.heap.size w w':=by
 cases hv:vB s ns
 ·have hz:Hid (zv s ns=0):=Lib.hid (by unfold zv;rw [hv];rfl)
  go_enter Tryz.func197,Tryz.ntmps197
  go_wp2_with fail
  refine (Cf s A ns n c B _ (h.alloc hB _) (by simp;omega) hn hl).mono ?_;rintro e w1 ⟨rfl,hb1⟩;obtain ⟨t1,hs1,hb2⟩:=box1 hb1;obtain ⟨c10,c11,f10,f11⟩:=t1.facts
  go_wp2_with fail
  go_ret
  rw [hz.out];exact ⟨rfl,hb2⟩
 ·have hz:Hid (zv s ns=if s then -(val ns:Int) else (val ns:Int)):=Lib.hid (by unfold zv;rw [hv];rfl)
  have Hv:=Lib.hid hv
  go_enter Tryz.func197,Tryz.ntmps197
  go_wp2_with fail
  refine (Cf s A ns n c B _ (h.alloc hB _) (by simp;omega) hn hl).mono ?_;rintro e w1 ⟨rfl,hb1⟩;obtain ⟨t1,hs1,hb2⟩:=box1 hb1;obtain ⟨c10,c11,f10,f11⟩:=t1.facts
  go_wp2_with fail
  go_ret
  obtain ⟨e1,e2,e3⟩:=qy Hv.out hz.out h.bI;exact ⟨iW e1.symm,hb2⟩
set_option maxHeartbeats 800000 in
theorem iy(A:Option Addr)(ns:List Nat)(n c B k:Nat)(w:World)(h:Rd w B A ns)(hn:ns.length=n)(_hl:n<=4294967296) :
  Calls Tryz.prog 250 #[.slice A n c,aj k] w fun e w'=>e = .returned (.int .u64 (dg ns k:Int))/\w=w':=by
 have Hn:=Lib.hid hn;clear hn
 by_cases h1:n<=k
 ·go_enter Tryz.func250,Tryz.ntmps250
  go_wp2
  go_ret
  exact ⟨eF (by rw [nP (by rw [Hn.out];exact h1)];rfl),rfl⟩
 ·obtain ⟨b,off,rfl,hb,hcell,hlt⟩:=h.at_ (k:=k) (by rw [Hn.out];omega)
  go_enter Tryz.func250,Tryz.ntmps250
  go_wp2
  go_ret
  exact ⟨rfl,rfl⟩
def sU(w:World)(N:Nat)(e:Ending)(w':World):Prop :=
 ∃ g c,e = .returned (.slice (some ⟨g,0,none⟩) (bg N).length c)/\(bg N).length<=c/\w.heap.size<=g/\bD w' g 82 (bg N)/\Below w.heap.size w w'
set_option maxHeartbeats 800000 in
theorem uM(A:Option Addr)(ns:List Nat)(n c B:Nat)(w:World)(h:Rd w B A ns)(hB:B<=w.heap.size)(hn:ns.length=n)(hl:n<=4294967296) :
  Calls Tryz.prog 199 #[.slice A n c] w (sU w (val ns)):=by
 have Hn:=Lib.hid hn;clear hn;have hown:(w.alloc (.cells #[] 82)).ownsRow w.heap.size 82 1 (.slice (some ⟨w.heap.size,0,none⟩) 0 0) 0 (arr []):=World.ownsRow_lit w #[] 0 (ahj _) (by simp [maxLen]) (by simp)
 go_enter Tryz.func199,Tryz.ntmps199
 go_wp2_with (at_builtin;refine Dy _ rfl _ _ 38 rfl w.heap.size 82 agv jI _ 0 [] rfl hown B A ns n c rfl (h.alloc hB _) Hn.out af (by simp) ?_;intro v' w1 hown1 hgrow1 hnil)
 rw [air,ahC] at hown1;obtain ⟨g,cc,rfl,hg,hcc,hblk⟩:=yV hown1 (by intro e;have h1:=(hnil.1 e).1;cases h1)
 have hb:Below w.heap.size w w1:=((Below.refl _ _).alloc (ahj _) _).grown hgrow1 (by simp) (fun k hk=>by
  have e:some w.heap.size=some k:=hk
  injection e with e;exact Nat.le_of_eq e)
 have hw:=h.bI;clear hown hown1 hgrow1 hnil h
 go_loop [3] (fun v => ∃ k:Nat,k<=n/\v = .slice (some ⟨g,0,none⟩) k cc/\Hid (val (ns.take k)=val ns)) (fun v=>cnt v)
 case atStart=>exact ⟨n,ahj _,rfl,Lib.hid (by rw [<- Hn.out,List.take_length])⟩
 case round =>
  obtain ⟨k,hk,rfl,hv⟩:=hrel
  by_cases hk0:k=0
  ·subst hk0
   go_wp2
   go_ret
   have e:=uZ hw (ahl _) hv.out (.inl rfl);exact ⟨g,cc,mW e,by rw [<- e];exact ahl _,hg,hblk.bg hw,hb⟩
  ·have hcell:=hblk.cell (i:=k-1) (by rw [Hn.out];omega)
   by_cases hd:dg ns (k-1)=0
   ·have HV:Hid (val (ns.take (k-1))=val ns):=Lib.hid (I4 (by rw [Hn.out];exact hk) hk0 hv.out hd)
    go_wp2
    go_round
    case rel=>exact ⟨k-1,af,rfl,HV⟩
    case measure=>simp [cnt];omega
   ·go_wp2
    go_ret
    have e:=uZ hw (by rw [Hn.out];exact hk) hv.out (.inr hd);exact ⟨g,cc,mW e,by rw [<- e];omega,hg,hblk.bg hw,hb⟩
set_option maxHeartbeats 800000 in
theorem Fp(s:Bool)(A:Option Addr)(ns:List Nat)(n c B:Nat)(z:Int)(w:World)(h:Rd w B A ns)(hB:B<=w.heap.size)(hn:ns.length=n)(hl:n<=4294967296)(hz:z=if s then -(val ns:Int) else (val ns:Int)) :
  Calls Tryz.prog 186 #[.bool s,.slice A n c] w (kQ w z):=by
 have HZ:=Lib.hid hz;clear hz
 go_enter Tryz.func186,Tryz.ntmps186
 go_wp2_with fail
 refine (uM A ns n c B _ (h.alloc hB _) (by simp;omega) hn hl).mono ?_;rintro e w1 ⟨g,c1,rfl,hc1,hg,hblk,hb1⟩;obtain ⟨t1,hs1,hb2⟩:=box1 hb1;obtain ⟨c10,c11,f10,f11⟩:=t1.facts;have hr:=hblk.rd (dD _);clear h
 by_cases h0:val ns=0
 ·have e0:(bg (val ns)).length=0:=by rw [h0];rfl
  have ez:z=0:=by rw [HZ.out,h0];split <;> rfl
  have hbq:(((bg (val ns)).length:Int)==0)=true:=by rw [e0];rfl
  clear e0 h0 HZ hn;subst ez
  go_wp2_with fail
  refine bodyPost_ret (v := .agg #[.bool (sg 0),.slice none 0 0]) (by simp [results,Tryz.results186,go_sem,c10,c11,ads]) rfl ?_;exact ⟨none,0,rfl,ahj _,Rd.nil_ _ _ _,(hb2.setCell (ahj _) _).setCell (ahj _) _⟩
 ·have hbq:(((bg (val ns)).length:Int)==0)=false:=by
   rw [beq_eq_false_iff_ne];intro e;exact h0 (ig.1 (ahB af))
  have Hz:Hid (sg z=s/\mg z=bg (val ns)):=Lib.hid (Si h0 HZ.out);clear h0 HZ hn
  go_wp2_with fail
  refine bodyPost_ret (v := .agg #[.bool s,.slice (some ⟨g,0,none⟩) (bg (val ns)).length c1]) (by simp [results,Tryz.results186,go_sem,c10,c11]) rfl ?_;have:=jW (z:=z) (c':=c1) t1 (by rw [Hz.out.2];exact hr) (ahj _) (by rw [Hz.out.2];exact hc1) hb2 (ahj _);rw [Hz.out.1,Hz.out.2] at this;exact this
theorem Lp(w:World)(t:TypeId){o:Obj}{a b:Int}{x y:Nat}(ha:a=x)(hb:b=y):bD ((w.alloc o).alloc (.cells #[.int .u32 a,.int .u32 b] t)) (w.heap.size+1) t [x,y]:=by
 have:=Lj (w.alloc o) t ha hb
 simp_all
set_option maxHeartbeats 800000 in
theorem ab2(z:Int)(w:World)(h1 : -9223372036854775808<=z)(h2:z<=9223372036854775807) :
  Calls Tryz.prog 120 #[.int .i64 z] w (kQ w z):=by
 by_cases h0:z<0
 ·obtain ⟨D,N,hD,hN,wX,hNl,hDl⟩:=TQ h1 h0
  have HN:=Lib.hid wX;clear wX;have hblk:=Lp w 82 (o := .cells #[.bool false,.slice none 0 0] 109) (a:=(N:Int)%4294967296) (b:=(N:Int)/4294967296) (x:=N%4294967296) (y:=N/4294967296) af af;have hw:bF [N%4294967296,N/4294967296]:=Jy af af;have hz:Hid (z=if true then -(val [N%4294967296,N/4294967296]:Int) else (val [N%4294967296,N/4294967296]:Int)):=Lib.hid (by rw [HN.out,val_two];simp;omega)
  go_enter Tryz.func120,Tryz.ntmps120
  go_wp2_with fail
  refine (Fp true _ [N%4294967296,N/4294967296] 2 2 _ z _ (hblk.rd hw) (ahj _) rfl af hz.out).mono ?_;rintro e w2 ⟨A2,c2,rfl,hc2,hr2,hb3⟩;have t1:=((Two.new w 109 (.bool false) (.slice none 0 0)).alloc (.cells #[.int .u32 ((N:Int)%4294967296),.int .u32 ((N:Int)/4294967296)] 82)).next hb3;have hb2:=bQ (((Below.refl w.heap.size w).alloc (ahj _) (.cells #[.bool false,.slice none 0 0] 109)).alloc (by simp) (.cells #[.int .u32 ((N:Int)%4294967296),.int .u32 ((N:Int)/4294967296)] 82)) hb3 (by simp);obtain ⟨d0,d1,g0,g1⟩:=t1.facts
  go_wp2_with fail
  refine bodyPost_ret (v := .agg #[.bool (sg z),.slice A2 (mg z).length c2]) (by simp [results,Tryz.results120,go_sem,d0,d1]) rfl ?_;exact jW t1 hr2 (ahj _) hc2 hb2 (ahj _)
 ·obtain ⟨N,rfl⟩:=aif (show 0<=z from af)
  have hblk:=Lp w 82 (o := .cells #[.bool false,.slice none 0 0] 109) (a:=(N:Int)%4294967296) (b:=(N:Int)/4294967296) (x:=N%4294967296) (y:=N/4294967296) af af;have hw:bF [N%4294967296,N/4294967296]:=Jy af af;have hz:Hid ((N:Int)=if false then -(val [N%4294967296,N/4294967296]:Int) else (val [N%4294967296,N/4294967296]:Int)):=Lib.hid (by rw [val_two];simp;omega)
  go_enter Tryz.func120,Tryz.ntmps120
  go_wp2_with fail
  refine (Fp false _ [N%4294967296,N/4294967296] 2 2 _ (N:Int) _ (hblk.rd hw) (ahj _) rfl af hz.out).mono ?_;rintro e w2 ⟨A2,c2,rfl,hc2,hr2,hb3⟩;have t1:=((Two.new w 109 (.bool false) (.slice none 0 0)).alloc (.cells #[.int .u32 ((N:Int)%4294967296),.int .u32 ((N:Int)/4294967296)] 82)).next hb3;have hb2:=bQ (((Below.refl w.heap.size w).alloc (ahj _) (.cells #[.bool false,.slice none 0 0] 109)).alloc (by simp) (.cells #[.int .u32 ((N:Int)%4294967296),.int .u32 ((N:Int)/4294967296)] 82)) hb3 (by simp);obtain ⟨d0,d1,g0,g1⟩:=t1.facts
  go_wp2_with fail
  refine bodyPost_ret (v := .agg #[.bool (sg (N:Int)),.slice A2 (mg (N:Int)).length c2]) (by simp [results,Tryz.results120,go_sem,d0,d1]) rfl ?_;exact jW t1 hr2 (ahj _) hc2 hb2 (ahj _)
end Go.Proofs.AZQ
namespace Lw
open Go
def hv:Nat->Nat->Nat
 | 0,_=>0
 | f+1,x=>if x=0 then 0 else hv f (x/2)+1
theorem Zw(f x:Nat):hv f x=Lib.bitLenAux f x:=by
 induction f generalizing x with
 | zero=>rfl
 | succ f ih=>unfold hv Lib.bitLenAux;rw [ih];split <;> omega
theorem Zy(f:Nat):hv f 0=0:=by cases f <;> simp [hv]
theorem Zx{f x:Nat}(h:x<2^f)(h0:x≠0) : ∃ f',f=f'+1/\hv f x=hv f' (x/2)+1/\x/2<2^f':=by
 cases f with
 | zero=>simp at h;omega
 | succ f=>exact ⟨f,rfl,by rw [hv,if_neg h0],by rw [ahL] at h;omega⟩
end Lw
namespace Go.Proofs.AZQ
open Go Go.RowKit Lw
set_option maxHeartbeats 1600000 in
theorem Q4(s:Bool)(A:Option Addr)(ns:List Nat)(n c B:Nat)(w:World)(h:Rd w B A ns)(hB:B<=w.heap.size)(hn:ns.length=n)(hl:n<=16777216)(hc:n<=c) :
  Calls Tryz.prog 134 #[.agg #[.bool s,.slice A n c]] w fun e w'=>e = .returned (.int .i64 (fG (zv s ns)))/\Below w.heap.size w w':=by
 have hlz:=vK (s:=s) h.bI;rw [hn] at hlz;have hk:=fun W hR hB'=>GU s A ns n c B W hR hB' hn hl hc;have hk':=fun W hR hB'=>Il s A ns n c B W hR hB' hn hl;generalize zv s ns=z at *;have Hk:=Lib.hid hk;have Eu:=Lib.hid hk';clear hk hk'
 go_enter Tryz.func134,Tryz.ntmps134
 go_wp2_with fail
 refine (Hk.out _ (h.alloc hB _) (by simp;omega)).mono ?_;rintro e w1 ⟨A1,c1,rfl,hc1,hr1,hb1⟩;obtain ⟨t1,hs1,hb2⟩:=box1 hb1;obtain ⟨c10,c11,f10,f11⟩:=t1.facts
 by_cases h0:(mg z).length=0
 ·have HZ:Hid (0=fG z):=Lib.hid (by rw [Az.1 h0];rfl)
  have hbq:(((mg z).length:Int)==0)=true:=by rw [beq_iff_eq];omega
  clear h0
  go_wp2_with fail
  go_ret
  exact ⟨eF HZ.out,hb2⟩
 ·have hne:z≠0:=fun e=>h0 (Az.2 e)
  have hbq:(((mg z).length:Int)==0)=false:=by rw [beq_eq_false_iff_ne];omega
  have H0:=Lib.hid hne;clear h0 hne
  go_wp2_with fail
  refine (Eu.out _ (h.below (hb2.mono hB)) af).mono ?_;rintro e w2 ⟨rfl,hb3⟩;have hb4:=bQ hb2 hb3 af
  cases hsg:sg z
  ·have HZ:Hid (1=fG z):=Lib.hid (by have:=RU hsg;have:=H0.out;unfold fG;rw [if_neg af,if_neg af])
   go_wp2_with fail
   go_ret
   exact ⟨eF HZ.out,hb4⟩
  ·have HZ:Hid (-1=fG z):=Lib.hid (by have:=RZ hsg;unfold fG;rw [if_pos af])
   go_wp2_with fail
   go_ret
   exact ⟨eF HZ.out,hb4⟩
set_option maxHeartbeats 1600000 in
theorem abU(A:Option Addr)(ns:List Nat)(n c B:Nat)(w:World)(h:Rd w B A ns)(hn:ns.length=n)(hl:n<=16777216) :
  Calls Tryz.prog 262 #[.slice A n c] w fun e w'=>e = .returned (.int .i64 (mJ ns))/\w=w':=by
 have Hn:=Lib.hid hn;clear hn
 by_cases h0:n=0
 ·have HN:Hid (0=mJ ns):=Lib.hid (by unfold mJ;rw [if_pos (by rw [Hn.out];exact h0)])
  subst h0
  go_enter Tryz.func262,Tryz.ntmps262
  go_wp2_with fail
  go_ret
  exact ⟨eF (by rw [<- HN.out];rfl),rfl⟩
 ·obtain ⟨b,off,rfl,hb,hcell,hlt⟩:=h.at_ (k:=n-1) (by rw [Hn.out];omega)
  have hbq:((n:Int)==0)=false:=by rw [beq_eq_false_iff_ne];omega
  have hx0:=hlt;have HN:Hid ((n-1)*32+Lib.bitLen (dg ns (n-1))=mJ ns):=Lib.hid (by unfold mJ;rw [if_neg (by rw [Hn.out];exact h0),Hn.out]);generalize dg ns (n-1)=X at *;have hX:Hid (hv 64 X=Lib.bitLen X):=Lib.hid (Zw 64 X)
  go_enter Tryz.func262,Tryz.ntmps262
  go_wp2_with fail
  go_loop [3,4] (fun v i => ∃ f x k:Nat,Hid (x<2^f)/\x<4294967296/\i = .int .u32 x/\v = .int .i64 (32*((n:Int)-1)+(k:Int))/\k<=64/\Hid (k+hv f x=Lib.bitLen X)/\k+f=64) (fun _ i=>(intOf i).toNat)
  case atStart=>exact ⟨64,X,0,Lib.hid af,hx0,rfl,by go_num,af,Lib.hid (by rw [ahC];exact hX.out),rfl⟩
  case round =>
   obtain ⟨f,x,k,OU,hx,rfl,rfl,hk,hv1,zT⟩:=hrel
   by_cases hx1:x=0
   ·subst hx1
    have HE:Hid (k=Lib.bitLen X):=Lib.hid (by rw [<- hv1.out,Zy];rfl)
    go_wp2_with fail
    go_ret
    exact ⟨eF (by rw [<- HN.out,<- HE.out];omega),rfl⟩
   ·obtain ⟨f',rfl,hs,hs2⟩:=Zx OU.out hx1
    have HS:=Lib.hid hs;have HS2:Hid (x/2<2^f'):=Lib.hid hs2;clear hs hs2 OU
    go_wp2_with fail
    go_round
    case rel=>exact ⟨f',x/2,k+1,HS2,af,by go_num,by go_num,af,Lib.hid (by have:=hv1.out;rw [HS.out] at this;omega),af⟩
    case measure=>simp [intOf];omega
end Go.Proofs.AZQ
namespace Lw
open Go Go.RowKit
theorem ad6{l:List Nat}(h:ed l)(hl:0<l.length):dg l (l.length-1)≠0 :=
 h _ (by rw [aiJ,qP af])
theorem qw(z:Int):vB (sg z) (mg z)=true:=by
 unfold vB
 by_cases h:(mg z).length=0
 ·rw [if_pos h]
  have:=Az.1 h;subst this;rfl
 ·rw [if_neg h]
  have:=ad6 (GX z) af;grind
theorem sG(z:Int):zv (sg z) (mg z)=z:=by
 unfold zv;rw [if_pos (qw z)];exact (uS z).symm
theorem rC{z:Int}{k:Nat}(h:z.natAbs<pw k):(mg z).length<=k:=gQ h
end Lw
namespace Lw
open Go Go.RowKit
structure Wh where
 s:Bool
 A:Option Addr
 n:Nat
 c:Nat
def Wh.cells(a:Wh):List Value:=[.bool a.s,.slice a.A a.n a.c]
def few(l:List Wh):Bool:=l.all fun a=>decide (a.n<=30)
end Lw
namespace Lw
open Go Go.RowKit
structure En where
 v:Value
 z:Int
 k:Nat
 b:Bool
def cZ(w:World)(e:En):Prop := ∃ (s:Bool) (A:Option Addr) (n c:Nat) (ns:List Nat) (B:Nat),e.v = .agg #[.bool s,.slice A n c]/\Rd w B A ns/\B<=w.heap.size/\ns.length=n/\n<=e.k/\n<=c/\zv s ns=e.z/\vB s ns=e.b
theorem cZ.next{w w':World}{e:En}(h:cZ w e)(hb:Below w.heap.size w w'):cZ w' e:=by
 obtain ⟨s,A,n,c,ns,B,h1,h2,h3,h4⟩:=h;exact ⟨s,A,n,c,ns,B,h1,h2.next hb h3,ahk h3 hb.size,h4⟩
theorem cZ.lt{w:World}{e:En}(h:cZ w e):e.z.natAbs<pw e.k:=by
 obtain ⟨s,A,n,c,ns,B,h1,h2,h3,h4,h5,h6,h7,h8⟩:=h;rw [<- h7];exact ahO (TY s ns) (ahr (dQ h2.bI) (dY af))
theorem xG{x y:Int}{k k':Nat}(h:x.natAbs<pw k)(h':y.natAbs<pw k'):(x+y).natAbs<pw (k+k'+1):=by
 have h1:pw k<=pw (k+k'):=dY af;have h2:pw k'<=pw (k+k'):=dY af;have h3:pw (k+k'+1)=pw (k+k')*4294967296:=by unfold pw;rw [ahL]
 omega
theorem aab{x y:Int}{k k':Nat}(h:x.natAbs<pw k)(h':y.natAbs<pw k'):(x-y).natAbs<pw (k+k'+1):=by
 have:=xG h (y := -y) (by simpa using h');omega
theorem lt_mul{x y:Int}{k k':Nat}(h:x.natAbs<pw k)(h':y.natAbs<pw k'):(x*y).natAbs<pw (k+k'+1):=by
 rw [aiN];have h1:x.natAbs*y.natAbs<pw k*pw k':=Nat.mul_lt_mul_of_le_of_lt (ahN h) h' af;have h2:pw k*pw k'=pw (k+k'):=by unfold pw;rw [ahV]
 have h3:pw (k+k')<=pw (k+k'+1):=dY af;omega
structure Bx where
 g:Nat
 x:Value
 y:Value
structure Env(t:TypeId)(W0 w:World)(bs:List Bx)(L:List En):Prop where
 ops : ∀ e∈L,cZ w e
 box : ∀ b∈bs,Two w b.g t b.x b.y
 below:Below W0.heap.size W0 w
variable {t:TypeId} {W0 w w':World} {bs:List Bx} {L:List En}
theorem Env.next(h:Env t W0 w bs L)(hb:Below w.heap.size w w'):Env t W0 w' bs L :=
 ⟨fun e he=>(h.ops e he).next hb,fun b hb'=>(h.box b hb').next hb,bQ h.below hb (ahj _)⟩
theorem Env.drew(h:Env t W0 w bs L):Env t W0 w.drew bs L:=h.next (Below.refl _ w).drew
theorem Env.cons(h:Env t W0 w bs L){e:En}(he:cZ w e):Env t W0 w bs (e::L) :=
 ⟨fun e' h'=>by
  rcases List.mem_cons.1 h' with rfl | h'
  ·exact he
  ·exact h.ops e' h',h.box,h.below⟩
theorem Env.tail{e:En}(h:Env t W0 w bs (e::L)):Env t W0 w bs L:=⟨fun e' h'=>h.ops e' (.tail _ h'),h.box,h.below⟩
theorem Env.nil_(h:Env t W0 w bs L):Env t W0 w bs (⟨.agg #[.bool false,.slice none 0 0],0,0,true⟩::L) :=
 h.cons ⟨false,none,0,0,[],0,rfl,Rd.nil_ _ _ _,ahl _,rfl,ahj _,ahj _,rfl,rfl⟩
theorem Env.cells3{g1 g2 g3:Nat}{x1 y1 x2 y2 x3 y3:Value}(h:Env t W0 w [⟨g1,x1,y1⟩,⟨g2,x2,y2⟩,⟨g3,x3,y3⟩] L) :
  w.cell? ⟨g1,0,none⟩=some x1/\w.cell? ⟨g1,1,none⟩=some y1/\w.cell? ⟨g2,0,none⟩=some x2/\w.cell? ⟨g2,1,none⟩=some y2/\w.cell? ⟨g3,0,none⟩=some x3/\w.cell? ⟨g3,1,none⟩=some y3:=by
 obtain ⟨a1,a2,_,_⟩:=(h.box _ ak).facts;obtain ⟨b1,b2,_,_⟩:=(h.box _ au).facts;obtain ⟨c1,c2,_,_⟩:=(h.box _ ax).facts;exact ⟨a1,a2,b1,b2,c1,c2⟩
theorem Env.cells2{g1 g2:Nat}{x1 y1 x2 y2:Value}(h:Env t W0 w [⟨g1,x1,y1⟩,⟨g2,x2,y2⟩] L) :
  w.cell? ⟨g1,0,none⟩=some x1/\w.cell? ⟨g1,1,none⟩=some y1/\w.cell? ⟨g2,0,none⟩=some x2/\w.cell? ⟨g2,1,none⟩=some y2:=by
 obtain ⟨a1,a2,_,_⟩:=(h.box _ ak).facts;obtain ⟨b1,b2,_,_⟩:=(h.box _ au).facts;exact ⟨a1,a2,b1,b2⟩
theorem cZ.new{w W:World}{s:Bool}{A:Option Addr}{n c:Nat}{l:List Nat}(r:Rd w w.heap.size A l)(hb:Below w.heap.size w W)(h:l.length=n)(hn:n<=30)(hc:n<=c):cZ W ⟨.agg #[.bool s,.slice A n c],zv s l,30,vB s l⟩ :=
 ⟨s,A,n,c,l,_,rfl,r.below hb,hb.size,h,hn,hc,rfl,rfl⟩
end Lw
namespace Go.Proofs.AZQ
open Go Go.RowKit Lw
section
variable {t:TypeId} {W0 w:World} {bs:List Bx} {L:List En} {v v':Value} {x y:Int} {k k':Nat} {b b':Bool}
theorem DD{z:Int}{K:Nat}{e:Ending}{w':World}(HE:Env t W0 w bs L)(h:kQ w z e w')(hz:z.natAbs<pw K) : ∃ u,e = .returned u/\Env t W0 w' bs (⟨u,z,K,true⟩::L):=by
 obtain ⟨A,c,rfl,hc,hr,hb⟩:=h;exact ⟨_,rfl,(HE.next hb).cons ⟨sg z,A,_,c,mg z,_,rfl,hr,ahj _,rfl,rC hz,hc,sG z,qw z⟩⟩
end
end Go.Proofs.AZQ
namespace Lw
open Go Go.RowKit
theorem PG{z:Int}(h1 : -9223372036854775808<=z)(h2:z<=9223372036854775807):z.natAbs<pw 2:=by
 have:pw 2=18446744073709551616:=rfl;omega
end Lw
namespace Go.Proofs.AZQ
open Go Go.RowKit Lw
section
variable {t:TypeId} {W0 w:World} {bs:List Bx} {L:List En} {v v':Value} {x y:Int} {k k':Nat} {b b':Bool}
theorem Q5(HE:Env t W0 w bs L)(h:⟨v,x,k,b⟩∈L)(hk:k<=100000) :
  Calls Tryz.prog 134 #[v] w fun e w'=>e = .returned (.int .i64 (fG x))/\Env t W0 w' bs L:=by
 obtain ⟨s,A,n,c,ns,B,e1,h2,h3,h4,h5,h6,e7,h8⟩:=HE.ops _ h;dsimp only at e1 e7 h5;subst e1 e7;exact (Q4 s A ns n c B w h2 h3 h4 af h6).mono fun e w' hh=>⟨hh.1,HE.next hh.2⟩
theorem aax{z:Int}(HE:Env t W0 w bs L)(h1 : -9223372036854775808<=z)(h2:z<=9223372036854775807) :
  Calls Tryz.prog 88 #[.int .i64 z] w fun e w' => ∃ u,e = .returned u/\Env t W0 w' bs (⟨u,z,2,true⟩::L) :=
 (aaw z w h1 h2).mono fun _ _ hh=>DD HE hh (PG h1 h2)
theorem ab3{z:Int}(HE:Env t W0 w bs L)(h1 : -9223372036854775808<=z)(h2:z<=9223372036854775807) :
  Calls Tryz.prog 120 #[.int .i64 z] w fun e w' => ∃ u,e = .returned u/\Env t W0 w' bs (⟨u,z,2,true⟩::L) :=
 (ab2 z w h1 h2).mono fun _ _ hh=>DD HE hh (PG h1 h2)
end
end Go.Proofs.AZQ
namespace Lw
open Go Go.RowKit
theorem Env.yR{t:TypeId}{W0 w:World}{bs:List Bx}{L:List En}(h:Env t W0 w bs L)(x y:Value):Env t W0 (w.alloc (.cells #[x,y] t)) (⟨w.heap.size,x,y⟩::bs) L :=
 have h2:=h.next ((Below.refl _ w).alloc (ahj _) (.cells #[x,y] t))
 ⟨h2.ops,fun b hb=>by
  rcases List.mem_cons.1 hb with rfl | hb
  ·exact Two.new w t x y
  ·exact h2.box b hb,h2.below⟩
theorem cZ.put{t:TypeId}{w:World}{g n c:Nat}{s:Bool}{X:Option Addr}{e:En}(h:cZ w e)(h2:Two w g t (.bool s) (.slice X n c))(s':Bool)(v:Value) :
  cZ ((w.setCell ⟨g,0,none⟩ (.bool s')).setCell ⟨g,1,none⟩ v) e:=by
 obtain ⟨a,A,m,d,ns,B,e1,h3,h4,h5,h6,h7,e7,h8⟩:=h;exact ⟨a,A,m,d,ns,B,e1,h3.lF h2 s' v,by simpa using h4,h5,h6,h7,e7,h8⟩
theorem Env.put{t:TypeId}{W0 w:World}{bs:List Bx}{L:List En}{g n c:Nat}{s:Bool}{X:Option Addr}(h:Env t W0 w (⟨g,.bool s,.slice X n c⟩::bs) L)(hg:W0.heap.size<=g)(hd : ∀ b∈bs,b.g≠g)(s':Bool)(v:Value) :
  Env t W0 ((w.setCell ⟨g,0,none⟩ (.bool s')).setCell ⟨g,1,none⟩ v) (⟨g,.bool s',v⟩::bs) L :=
 ⟨fun e he=>(h.ops e he).put (h.box _ ak) s' v,fun b hb=>by
  rcases List.mem_cons.1 hb with rfl | hb
  ·exact (h.box _ ak).put _ _
  ·exact ((h.box b (.tail _ hb)).far (p:=⟨g,0,none⟩) (hd b hb) _).far (p:=⟨g,1,none⟩) (hd b hb) _,
  (h.below.setCell (p:=⟨g,0,none⟩) hg _).setCell (p:=⟨g,1,none⟩) hg _⟩
theorem Env.aee{t:TypeId}{W0 w:World}{b:Bx}{bs:List Bx}{L:List En}(h:Env t W0 w (b::bs) L):Env t W0 w bs L:=⟨h.ops,fun b' hb=>h.box b' (.tail _ hb),h.below⟩
theorem Env.top{t:TypeId}{W0 w:World}{g:Nat}{x y:Value}{bs:List Bx}{L:List En}(h:Env t W0 w (⟨g,x,y⟩::bs) L) :
  w.cell? ⟨g,0,none⟩=some x/\w.cell? ⟨g,1,none⟩=some y/\w.frozen? ⟨g,0,none⟩=false/\w.frozen? ⟨g,1,none⟩=false:=(h.box _ ak).facts
end Lw
namespace Go.Proofs.AZQ
open Go Go.RowKit Lw
theorem VA(z:Int)(w:World):Sem.run Tryz.prog (Instr.typeAssert (.iface 92 (.int .i64 z)) 27 92 true) w = .ok (.tuple #[.int .i64 z,.bool true]) w:=ah
set_option maxRecDepth 100000 in
set_option maxHeartbeats 800000 in
theorem aat(w:World):Calls Tryz.prog 16 #[.nilIface] w fun e w'=>e = .returned (.int .i64 0)/\w=w':=by
 go_enter Tryz.func16,Tryz.ntmps16
 go_wp2
 go_ret
 exact ⟨rfl,rfl⟩
set_option maxRecDepth 100000 in
set_option maxHeartbeats 800000 in
theorem aas(z:Int)(w:World):Calls Tryz.prog 16 #[.iface 92 (.int .i64 z)] w fun e w'=>e = .returned (.int .i64 z)/\w=w':=by
 go_enter Tryz.func16,Tryz.ntmps16
 have ha:=VA z w
 go_wp2
 go_ret
 exact ⟨rfl,rfl⟩
end Go.Proofs.AZQ
