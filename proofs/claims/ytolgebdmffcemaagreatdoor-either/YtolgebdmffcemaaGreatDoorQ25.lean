import Derived.Test.YtolgebdmffcemaaGreatDoorQ24
import Derived.Test.YtolgebdmffcemaaGreatDoorQ18
set_option linter.all false
set_option maxHeartbeats 20000000
set_option maxRecDepth 1000000
open Go.Proofs.Tryz renaming prog→rJ,func132→DX,ntmps132→DY,func131→DZ,ntmps131→E0,func130→E3,ntmps130→E4,func97→E5,ntmps97→E6,underlying99→E9,underlying100→DC,underlying9→DD,func20→ED,ntmps20→EE
open List renaming length_map→pA,getElem?_map→rN,take_of_length_le→mG,mem_append→nJ,mem_singleton→iE,map_map→aE,map_congr_left→wH
open Nat renaming zero_le→sQ
open Go.World renaming cell?_alloc_past→E7,frozen?_alloc_past→E8,frozen?_of_block→DL,size_setCell→EB
open UInt8 renaming ofNat→mA
open Go.Lib renaming byteCells→rV
open ByteArray renaming size→aF
namespace Go.Proofs.YtolgebdmffcemaaGreatDoor
open Go.RowKit Go.Shelf
def Yo (x y:R.Leaf):Bool:=decide (pk x=pk y∧x.n=y.n∧x.text=y.text∧x.items=y.items)
theorem ov {x y:R.Leaf}(hx:OkL x)(hy:OkL y)(hp:x.path=y.path):Yo x y=true↔x=y:=by
 constructor
 ·intro h
  obtain⟨h1,h2,h3,h4⟩:=of_decide_eq_true h;obtain⟨p,k,n,t,it⟩:=x;obtain⟨p',k',n',t',a0⟩:=y;simp only at hp h2 h3 h4;subst hp h2 h3 h4;have hk:k=k' :=by
   rcases hx.kind with e|e|e<;>rcases hy.kind with e' |e' |e' <;>simp only at e e' <;>simp[pk,e.1,e'.1]at h1<;>rw[e.1,e'.1]
  rw[hk]
 ·intro h
  subst h;exact decide_eq_true ⟨rfl,rfl,rfl,rfl⟩
theorem Uv (x y:R.Leaf)(ia ja:Option Addr)(ic jc:Nat)(w:World)(M:Nat→Prop)(h:It w M (x,.slice ia x.items.length ic))(h' :It w M (y,.slice ja y.items.length jc)):
  Calls rJ 132 #[.agg #[.int .i64 (pk x),.int .i64 x.n,.string ⟨x.text.toArray⟩,.slice ia x.items.length ic],.agg #[.int .i64 (pk y),.int .i64 y.n,.string ⟨y.text.toArray⟩,.slice ja y.items.length jc]] w fun e w' =>e= .returned (.bool (Yo x y))∧Below w.heap.size w w' :=by
 have HE:Hid (∀W,Below w.heap.size w W→Calls rJ 181 #[.slice ia x.items.length ic,.slice ja y.items.length jc] W fun e w' =>e= .returned (.bool (decide (x.items=y.items)))∧Below W.heap.size W w'):=fun W hW=>cF _ _ x.items y.items W M (Rd.below h hW) (Rd.below h' hW)
 clear h h';by_cases h1:pk x=pk y
 ·by_cases h2:x.n=y.n
  ·by_cases h3:x.text=y.text
   ·have HS:Hid (Yo x y=decide (x.items=y.items)):=by show _=_;simp[Yo,h1,h2,h3]
    have e1:(pk x==pk y)=true:=by simpa using h1
    have e2:(x.n==y.n)=true:=by simpa using h2
    have e3:(x.text==y.text)=true:=by simpa using h3
    have HB:Hid (Below w.heap.size w ((w.alloc (.cells #[.int .i64 (pk x),.int .i64 x.n,.string ⟨x.text.toArray⟩,.slice ia x.items.length ic] 137)).alloc (.cells #[.int .i64 (pk y),.int .i64 y.n,.string ⟨y.text.toArray⟩,.slice ja y.items.length jc] 137))):=((j0g _ _).alloc (j0a _) _).alloc (by simp) _;clear h1 h2 h3;generalize decide (x.items=y.items)=bb at*;go_enter DX,DY;go_wp2_with fail
    refine(HE.out _ HB.out).mono ?_;rintro e w1 ⟨rfl,a0⟩;have a1:Hid (Below w.heap.size w w1):=HB.out.trans (a0.mono HB.out.size);clear a0
    cases bb
    all_goals
     go_wp2;go_ret;rw[HS.out];exact⟨zA (by simp),a1.out⟩
   ·have HS:Hid (Yo x y=false):=by show _=_;simp[Yo,h3]
    have e1:(pk x==pk y)=true:=by simpa using h1
    have e2:(x.n==y.n)=true:=by simpa using h2
    have e3:(x.text==y.text)=false:=by simpa using h3
    clear h1 h2 h3;go_enter DX,DY;go_wp2;go_ret;rw[HS.out];exact⟨zA (by simp),((j0g _ _).alloc (j0a _) _).alloc (by simp) _⟩
  ·have HS:Hid (Yo x y=false):=by show _=_;simp[Yo,h2]
   have e1:(pk x==pk y)=true:=by simpa using h1
   have e2:(x.n==y.n)=false:=by simpa using h2
   clear h1 h2;go_enter DX,DY;go_wp2;go_ret;rw[HS.out];exact⟨zA (by simp),((j0g _ _).alloc (j0a _) _).alloc (by simp) _⟩
 ·have HS:Hid (Yo x y=false):=by show _=_;simp[Yo,h1]
  have e1:(pk x==pk y)=false:=by simpa using h1
  clear h1;go_enter DX,DY;go_wp2;go_ret;rw[HS.out];exact⟨zA (by simp),((j0g _ _).alloc (j0a _) _).alloc (by simp) _⟩
theorem C_ (x y:R.Leaf)(ia ja:Option Addr)(ic jc:Nat)(w:World)(M:Nat→Prop)(h:It w M (x,.slice ia x.items.length ic))(h' :It w M (y,.slice ja y.items.length jc)):
  Calls rJ 131 #[.agg #[.string ⟨x.path.toArray⟩,.int .i64 (pk x),.int .i64 x.n,.string ⟨x.text.toArray⟩,.slice ia x.items.length ic],.agg #[.string ⟨y.path.toArray⟩,.int .i64 (pk y),.int .i64 y.n,.string ⟨y.text.toArray⟩,.slice ja y.items.length jc]] w fun e w' =>e= .returned (.bool ((x.path==y.path)&&Yo x y))∧Below w.heap.size w w' :=by
 have HE:Hid (∀W,Below w.heap.size w W→Calls rJ 132 #[.agg #[.int .i64 (pk x),.int .i64 x.n,.string ⟨x.text.toArray⟩,.slice ia x.items.length ic],.agg #[.int .i64 (pk y),.int .i64 y.n,.string ⟨y.text.toArray⟩,.slice ja y.items.length jc]] W fun e w' =>e= .returned (.bool (Yo x y))∧Below W.heap.size W w'):=fun W hW=>Uv x y ia ja ic jc W M (Rd.below h hW) (Rd.below h' hW)
 have HB:Hid (Below w.heap.size w ((w.alloc (.cells #[.string ⟨x.path.toArray⟩,.int .i64 (pk x),.int .i64 x.n,.string ⟨x.text.toArray⟩,.slice ia x.items.length ic] 139)).alloc (.cells #[.string ⟨y.path.toArray⟩,.int .i64 (pk y),.int .i64 y.n,.string ⟨y.text.toArray⟩,.slice ja y.items.length jc] 139))):=((j0g _ _).alloc (j0a _) _).alloc (by simp) _;clear h h'
 cases e0:(x.path==y.path)
 ·go_enter DZ,E0
  go_wp2;go_ret;exact⟨zA (by simp),HB.out⟩
 ·generalize Yo x y=bb at*
  go_enter DZ,E0;go_wp2_with fail
  refine(HE.out _ HB.out).mono ?_;rintro e w1 ⟨rfl,a0⟩;have a1:Hid (Below w.heap.size w w1):=HB.out.trans (a0.mono HB.out.size);clear a0
  cases bb
  all_goals
   go_wp2;go_ret;exact⟨zA (by simp),a1.out⟩
theorem Ol (v u:Value)(t s:List R.Leaf)(w:World)(M:Nat→Prop)(h:PT w M v t)(h' :PT w M u s)(ht:∀x∈t,OkL x)(hs:∀x∈s,OkL x):
  Calls rJ 130 #[v,u,.func (.func 131) #[] #[]] w fun e w' =>∃b:Bool,(b=true↔t=s)∧e= .returned (.bool b)∧Below w.heap.size w w' :=by
 obtain⟨L,hL,⟨a,c,rfl,hn,hm,hc⟩,hI⟩:=h;obtain⟨L',b2,⟨a',c',rfl,f7,f6,d3⟩,c7⟩:=h';unfold maxLen at hm f6;have a5:t.length=L.length:=by rw[←hL,pA]
 have a6:s.length=L'.length:=by rw[←b2,pA]
 have HC:=z6 hc;have e6 :=z6 d3;have HI:=z6 hI;have e8 :=z6 c7;have HL:=z6 hL;have e9 :=z6 b2;have HT:=z6 ht;have HS:=z6 hs;clear hc d3 hI c7 hL b2 ht hs;by_cases hl:L.length=L'.length
 ·obtain⟨n,a7⟩:∃n,n=L'.length:=⟨_,rfl⟩
  have b3:L.length=n:=by rw[a7];exact hl
  rw[←a7]at f7 ⊢;rw[b3]at hn⊢;have b8:=z6 a7;have b7:=z6 b3;have a3:=z6 a5;have a2:=z6 a6;clear a7 b3 hl a5 a6;go_enter E3,E4;go_wp2;go_loopw [17] (fun i wr=>∃k:Nat,k≤n∧i= .int .i64 k∧t.take k=s.take k∧Below w.heap.size w wr) (fun i _=>n-(intOf i).toNat)
  case atStart=>exact⟨0,sQ _,rfl,by simp,j0g _ _⟩
  case round=>
   obtain⟨k,hk,rfl,d9,hb⟩:=hrel;have c6:=z6 d9;have HB:=z6 hb;clear d9;by_cases a5:k<n
   ·have d6:k<L.length:=by have:=b7.out;omega
    have d7:k<L'.length:=by have:=b8.out;omega
    obtain⟨b,off,rfl,a4,_,h1⟩:=HC.out (by omega);obtain⟨b',f9,rfl,a0,_,h2⟩:=e6.out (by omega);obtain⟨x,ia,ic,f3,d4,c0,c1,c2,c3,c4⟩:=qo HI.out h1 k d6;obtain⟨y,ja,jc,f4,d5,e0,e1,e2,e3,e4⟩:=qo e8.out h2 k d7;have b5:t[k]'(by have:=a3.out;omega)=x:=by
     have e:t[k]? =(L.map (·.1))[k]? :=by rw[HL.out]
     rw[rN,j0d d6,j0d (by have:=a3.out;omega),f3.out]at e;exact Option.some.inj e
    have b4:s[k]'(by have:=a2.out;omega)=y:=by
     have e:s[k]? =(L'.map (·.1))[k]? :=by rw[e9.out]
     rw[rN,j0d d7,j0d (by have:=a2.out;omega),f4.out]at e;exact Option.some.inj e
    have a8:OkL x:=by rw[←b5];exact HT.out _ (j0c _)
    have d8:OkL y:=by rw[←b4];exact HS.out _ (j0c _)
    have up:∀(bb o:Nat) (u:Value),bb<w.heap.size→w.cell? ⟨bb,o,none⟩=some u→wr.cell? ⟨bb,o,none⟩=some u:=fun bb o u h1 h2=>by
     rw[hb.cell (p:=⟨bb,o,none⟩) h1];exact h2
    have c0:=up _ _ _ a4 c0;have c1:=up _ _ _ a4 c1;have c2:=up _ _ _ a4 c2;have c3:=up _ _ _ a4 c3;have c4:=up _ _ _ a4 c4;have e0:=up _ _ _ a0 e0;have e1:=up _ _ _ a0 e1;have e2:=up _ _ _ a0 e2;have e3:=up _ _ _ a0 e3;have e4:=up _ _ _ a0 e4;have f8:=hb.size;have g0:b<wr.heap.size:=by omega
    have f5 :b' <wr.heap.size:=by omega
    have b9:Hid (∀W,Below w.heap.size w W→Calls rJ 131 #[.agg #[.string ⟨x.path.toArray⟩,.int .i64 (pk x),.int .i64 x.n,.string ⟨x.text.toArray⟩,.slice ia x.items.length ic],.agg #[.string ⟨y.path.toArray⟩,.int .i64 (pk y),.int .i64 y.n,.string ⟨y.text.toArray⟩,.slice ja y.items.length jc]] W fun e w' =>e= .returned (.bool ((x.path==y.path)&&Yo x y))∧Below W.heap.size W w'):=fun W hW=>C_ x y ia ja ic jc W M (Rd.below d4 hW) (Rd.below d5 hW)
    have a9:Hid (Below w.heap.size w ((wr.alloc (.cells #[.string ⟨x.path.toArray⟩,.int .i64 (pk x),.int .i64 x.n,.string ⟨x.text.toArray⟩,.slice ia x.items.length ic] 139)).alloc (.cells #[.string ⟨y.path.toArray⟩,.int .i64 (pk y),.int .i64 y.n,.string ⟨y.text.toArray⟩,.slice ja y.items.length jc] 139))):=(hb.alloc f8 _).alloc (by simp;omega) _;have a1:Hid ((((x.path==y.path)&&Yo x y)=true↔x=y)∧t[k]'(by have:=a3.out;omega)=x∧s[k]'(by have:=a2.out;omega)=y):=by
     refine⟨?_,b5,b4⟩;rw[Bool.and_eq_true,beq_iff_eq];constructor
     ·rintro⟨h1,h2⟩
      exact(ov a8 d8 h1).1 h2
     ·intro e
      subst e;exact⟨rfl,(ov a8 a8 rfl).2 rfl⟩
    obtain⟨bb,c9⟩:∃bb,bb=((x.path==y.path)&&Yo x y):=⟨_,rfl⟩
    rw[←c9]at a1 b9;clear h1 h2 up d4 d5 b5 b4 hb a8 d8 c9;go_wp2_with fail
    refine(b9.out _ a9.out).mono ?_;rintro e w5 ⟨rfl,c8⟩;have b6:Hid (Below w.heap.size w w5):=a9.out.trans (c8.mono a9.out.size);clear c8
    cases bb
    ·go_wp2
     go_ret;refine⟨false,⟨fun h=>(by cases h),fun h=> ?_⟩,rfl,b6.out⟩;subst h;have h1:=a1.out.2.1;have h2:=a1.out.2.2;exact a1.out.1.2 (h1.symm.trans h2)
    ·go_wp2
     go_roundw
     case rel=>
      refine⟨k+1,by omega,by go_num,?_,b6.out⟩;refine Vh t s k (by have:=a3.out;omega) (by have:=a2.out;omega) c6.out ?_;rw[a1.out.2.1,a1.out.2.2];exact a1.out.1.1 (by first|trivial|rfl)
     case measure=>simp[intOf];omega
   ·obtain rfl:k=n:=by omega
    have e7:Hid (t=s):=by
     have:=c6.out;rwa[mG (by have:=a3.out;have:=b7.out;omega),mG (by have:=a2.out;have:=b8.out;omega)]at this
    clear hb;go_wp2;go_ret;exact⟨true,⟨fun _=>e7.out,fun _=>rfl⟩,rfl,HB.out⟩
 ·have b0:((L.length:Int) !=(L'.length:Int))=true:=by simp;omega
  have b1:((L.length:Int)==(L'.length:Int))=false:=by simp;omega
  have f0:Hid (t≠s):=fun e=>hl (by rw[←a5,←a6,e])
  clear hl a5 a6;go_enter E3,E4;go_wp2;go_ret;exact⟨false,⟨fun h=>(by cases h),fun h=>absurd h f0.out⟩,rfl,j0g _ _⟩
theorem CZ (v u:Value)(t s:List R.Leaf)(w:World)(M:Nat→Prop)(h:PT w M v t)(h' :PT w M u s)(ht:∀x∈t,OkL x)(hs:∀x∈s,OkL x):
  Calls rJ 83 #[v,u] w fun e w' =>∃b:Bool,(b=true↔t=s)∧e= .returned (.bool b)∧Below w.heap.size w w' :=by
 have HE:=z6 (Ol v u t s w M h h' ht hs);clear h h' ht hs;go_enter Tryz.func83,Tryz.ntmps83;go_wp2_with fail
 refine HE.out.mono ?_;rintro e w1 ⟨b,a1,rfl,a0⟩;go_wp2;go_ret;exact⟨b,a1,rfl,a0⟩
theorem Tryz.info114:(Tryz.prog.info? 114).map (fun i=>(i.zero,i.size,i.bytes))=some (some (.agg #[.slice none 0 0,.slice none 0 0]),2,48):=by kernel_rfl
theorem ON (L:List (R.Cm×Value×Value))(p:R.Cm×Value×Value):YC (L++ [p])=YC L++ [p.2.1,p.2.2]:=by simp[YC]
theorem ub {w w5:World}{M O:Nat→Prop}{B:Nat}{st:R.St}{bv cv:Value}{LB:List BrP}{LCm:List (R.Cm×Value×Value)}(hP:PSx w M O B st bv cv LB LCm){v3 tv pv:Value}{c:R.Cm}
  (hK:ze (fun b=>cv.ownBlock=some b) w w5)(a0:w5.ownsRow 0 114 2 v3 (LCm.length+1) (YC LCm++ [pv,tv]))(a2:∀g,v3.ownBlock=some g→cv.ownBlock=some g∨w.heap.size≤g)
  (b4:PT w5 (fun b=>M b∨(O b∨v3.ownBlock=some b)) tv c.tree)(b3:Rd w5 (fun b=>M b∨(O b∨v3.ownBlock=some b)) pv c.parents.length (c.parents.map fun(n:Nat)=>Value.int .i64 (n:Int))):
  PSx (w5.setCell ⟨B,1,none⟩ v3) (fun b=>M b∨(O b∨v3.ownBlock=some b)) (fun b=>O b∨v3.ownBlock=some b) B {st with cms:=st.cms++ [c]} bv v3 LB (LCm++ [(c,pv,tv)])∧ze O w (w5.setCell ⟨B,1,none⟩ v3)∧(∀b,(O b∨v3.ownBlock=some b)→O b∨w.heap.size≤b):=by
 have a8:=hP.lt B hP.own;have a6:cv.ownBlock≠some B:=fun e=>(hP.crowO B e).2.1 rfl
 have b5:=hK.size;have a1:v3.ownBlock≠some B:=fun e=>by
  rcases a2 B e with e|e
  ·exact a6 e
  ·omega
 have K5:ze (fun b=>b=B) w5 (w5.setCell ⟨B,1,none⟩ v3):=(ze.refl (fun b=>b=B) w5).setCell (p:=⟨B,1,none⟩) (.inl rfl) v3;have Kf:ze (fun b=>cv.ownBlock=some b∨b=B) w (w5.setCell ⟨B,1,none⟩ v3):=(hK.mono (fun b e=> .inl e)).setCell (p:=⟨B,1,none⟩) (.inl (.inr rfl)) v3;have a3:∀o,w5.cell? ⟨B,o,none⟩=w.cell? ⟨B,o,none⟩:=fun o=>hK.cell (p:=⟨B,o,none⟩) a8 a6
 have a5:∀b,(cv.ownBlock=some b∨b=B)→M b:=fun b e=>by
  rcases e with e|e
  ·exact hP.sub b (hP.crowO b e).1
  ·rw[e];exact hP.sub B hP.own
 have b1 :∀b,(O b∨v3.ownBlock=some b)→O b∨w.heap.size≤b:=fun b e=>by
  rcases e with e|e
  ·exact .inl e
  ·rcases a2 b e with e|e
   ·exact .inl (hP.crowO b e).1
   ·exact .inr e
 have a4 :∀b,(M b∨(O b∨v3.ownBlock=some b))→M b∨w.heap.size≤b:=fun b e=>by
  rcases e with e|e
  ·exact .inl e
  ·rcases b1 b e with e|e
   ·exact .inl (hP.sub b e)
   ·exact .inr e
 have a7:∀b,b=B→(M b∨(O b∨v3.ownBlock=some b)):=fun b e=> .inl (by rw[e];exact hP.sub B hP.own)
 have a9:∀b,(M b∨(O b∨v3.ownBlock=some b))→(M b∨(O b∨v3.ownBlock=some b))∨w5.heap.size≤b:=fun b e=> .inl e
 have b2:∀g,O g→cv.ownBlock≠some g→v3.ownBlock≠some g:=fun g h1 h2 e=>by
  rcases a2 g e with e|e
  ·exact h2 e
  ·have:=hP.lt g h1;omega
 refine⟨⟨fun b e=> .inr e,fun b e=> ?_,.inl hP.own,?_,?_,fun o=> ?_,hP.brs,zq hP.row Kf (fun g e e2=> ?_),fun g e=>⟨.inl (hP.rowO g e).1,(hP.rowO g e).2⟩,fun p hp=>(hP.at_ p hp).kept Kf (hP.lt _ (hP.blk p hp).1) (fun e=> ?_) a5 a4,fun p hp=>⟨.inl (hP.blk p hp).1,(hP.blk p hp).2.1,(hP.blk p hp).2.2.1,b2 _ (hP.blk p hp).1 (hP.blk p hp).2.2.2⟩,hP.dist,?_,?_,fun g e=>⟨.inr e,fun e2=>a1 (by rw[←e2];exact e),fun e2=> ?_⟩,fun p hp=> ?_,fun p hp=> ?_,?_⟩,Kf.mono (fun b e=> ?_),b1⟩
 ·rcases e with e|e
  ·exact j0b (hP.lt b e) Kf.size
  ·exact j0b (a0.lt b e).2 K5.size
 ·rw[zL _ _ _ _ _ (by omega),a3];exact hP.c0
 ·exact Ya _ _ _ _ cv (by rw[a3];exact hP.c1)
 ·rw[World.frozen?_setCell,hK.frozen (p:=⟨B,o,none⟩) a8 a6];exact hP.fr o
 ·rcases e2 with e2|e2
  ·exact(hP.crowO g e2).2.2 e
  ·exact(hP.rowO g e).2 e2
 ·rcases e with e|e
  ·exact(hP.blk p hp).2.2.2 e
  ·exact(hP.blk p hp).2.1 e
 ·rw[List.map_append,hP.cms];rfl
 ·rw[List.length_append,List.length_singleton,ON]
  exact zq a0 K5 (fun g e e2=>a1 (by rw[←e2];exact e))
 ·rcases a2 g e with e3|e3
  ·exact(hP.crowO g e3).2.2 e2
  ·have:=hP.lt g (hP.rowO g e2).1;omega
 ·rcases nJ.1 hp with hp|hp
  ·exact(hP.ctree p hp).step Kf a5 a4
  ·rw[iE.1 hp];exact b4.step K5 a7 a9
 ·rcases nJ.1 hp with hp|hp
  ·exact(hP.cpar p hp).step Kf a5 a4
  ·rw[iE.1 hp];exact b3.step K5 a7 a9
 ·obtain⟨kv,hk⟩:=hP.pk
  refine⟨kv,by rw[zL _ _ _ _ _ (by omega),a3];exact hk.c2,zq hk.row Kf (fun g e e2=> ?_),fun g e=>⟨.inl (hk.rowO g e).1,(hk.rowO g e).2.1,(hk.rowO g e).2.2.1,b2 g (hk.rowO g e).1 (hk.rowO g e).2.2.2.1,(hk.rowO g e).2.2.2.2⟩⟩;rcases e2 with e2|e2
  ·exact(hk.rowO g e).2.2.2.1 e2
  ·exact(hk.rowO g e).2.1 e2
 ·rcases e with e|e
  ·exact(hP.crowO b e).1
  ·rw[e];exact hP.own
theorem PS.cms1 {w:World}{M O:Nat→Prop}{B:Nat}{st:R.St}(h:PS w M O B st):∃a c,w.cell? ⟨B,1,none⟩=some (.slice a st.cms.length c)∧st.cms.length≤c∧c≤maxLen:=by
 obtain⟨bv,cv,LB,LCm,hR⟩:=h;obtain⟨a,c,hv,h1,h2,_⟩:=zl hR.crow;have hl:LCm.length=st.cms.length:=by rw[←hR.cms,pA]
 rw[hl]at hv h1;exact⟨a,c,by rw[←hv];exact hR.c1,h1,h2⟩
theorem Bj {w:World}{M O:Nat→Prop}{B:Nat}{st:R.St}(h:PS w M O B st)(c:R.Cm)(pa:Option Addr)(pc:Nat)(ta:Option Addr)(tn tc:Nat)(g9:PT w M (.slice ta tn tc) c.tree)(f4:Rd w M (.slice pa c.parents.length pc) c.parents.length (Xa c.parents))(hM:∀b,M b→b<w.heap.size)(hT:OkT c.tree)(h2:c.parents.length≤2)(hl:st.cms.length<60)(l0:st.packed.length≤1000000000000)(hG:Zy w)(h6:∀b,O b→6≤b):
  Calls rJ 97 #[.pointer (some ⟨B,0,none⟩),.agg #[.slice pa c.parents.length pc,.slice ta tn tc]] w fun e w' =>e= .returned (.int .i64 ((st.cms.length+1:Nat):Int))∧zv w w' M O B (R.keepC st c):=by
 obtain⟨bv,cv,LB,LCm,hP⟩:=h;have g2:=hP.lt B hP.own;have c1:=hP.c1;obtain⟨ca,cc,b7,k5,k6,k7,k8⟩:=zl hP.crow;have d8:LCm.length=st.cms.length:=by rw[←hP.cms,pA]
 obtain⟨n0,d5⟩:∃n0,n0=st.cms.length:=⟨_,rfl⟩
 rw[d8,←d5]at b7 k5;rw[←d5]at hl⊢;rw[b7]at c1;unfold maxLen at k6;have a5:=hP.crow;rw[d8,←d5,b7]at a5;have d4:∀g,(Value.slice ca n0 cc).ownBlock=some g→O g∧g≠B:=fun g e=>by
  have:=hP.crowO g (by rw[b7];exact e);exact⟨this.1,this.2.1⟩
 have HP:=z6 hP;have f7:=z6 b7;have f8:=z6 d5;have i8:=z6 d8;have g1:=z6 g9;have f9:=z6 f4;have HG:=z6 hG;have HT:=z6 hT;have c7:=hP.sub;have e7:=hP.lt;obtain⟨np,f3⟩:∃np,np=c.parents.length:=⟨_,rfl⟩
 rw[←f3]at h2⊢;have b8:=z6 f3;have f5:np≤pc∧pc≤maxLen:=by
  obtain⟨a,k,e,h1,h2,_⟩:=f4;injection e with _ _ e
  subst e;exact⟨by omega,h2⟩
 have i5:Hid (∀o,w.frozen? ⟨B,o,none⟩=false):=hP.fr;unfold maxLen at f5;obtain⟨i0,k3,l3,l4,l5⟩:=info_parts Tryz.info114;have g5:(Value.slice ca n0 cc).ownBlock≠some B:=fun e=>(d4 B e).2 rfl
 clear hP b7 k7 k8 d5 d8 g9 f4 hG hT f3;go_enter E5,E6;go_wp2;have d3:Below w.heap.size w (w.alloc (Obj.cells #[.slice pa np pc,.slice ta tn tc] 114)):=(j0g _ _).alloc (j0a _) _;have i2:(w.alloc (Obj.cells #[.slice pa np pc,.slice ta tn tc] 114)).heap.size=w.heap.size+1:=by simp
 have x0:(w.alloc (Obj.cells #[.slice pa np pc,.slice ta tn tc] 114)).cell? ⟨w.heap.size,0,none⟩=some (.slice pa np pc):=by simp
 have x1:(w.alloc (Obj.cells #[.slice pa np pc,.slice ta tn tc] 114)).cell? ⟨w.heap.size,1,none⟩=some (.slice ta tn tc):=by simp
 generalize w.alloc (Obj.cells #[.slice pa np pc,.slice ta tn tc] 114)=W1 at*;have sB:=(d3.cell (p:=⟨B,1,none⟩) g2).trans c1;have so:=Zm a5 d3;have fB:∀o,W1.frozen? ⟨B,o,none⟩=false:=fun o=>(d3.frozen (p:=⟨B,o,none⟩) g2).trans (i5.out o)
 have rB:∀o,(W1.alloc o).cell? ⟨B,1,none⟩=some (.slice ca n0 cc):=fun o=>by rw[E7 _ _ _ (by omega)];exact sB
 have r0:∀o,(W1.alloc o).cell? ⟨w.heap.size,0,none⟩=some (.slice pa np pc):=fun o=>by rw[E7 _ _ _ (by omega)];exact x0
 have r1:∀o,(W1.alloc o).cell? ⟨w.heap.size,1,none⟩=some (.slice ta tn tc):=fun o=>by rw[E7 _ _ _ (by omega)];exact x1
 have j3:Hid (∀o j,(W1.alloc o).frozen? ⟨B,j,none⟩=false):=fun o j=>by rw[E8 _ _ _ (by omega)];exact fB j
 have j2:=z6 rB;have j0:=z6 r0;have j1:=z6 r1;have d6:=z6 d3;have j7:=z6 i2;have m4:w.heap.size<W1.heap.size:=by omega
 have h0:(Value.slice ca n0 cc).ownBlock≠some w.heap.size:=fun e=>by have:=e7 _ (d4 _ e).1;omega
 clear d3 i2 fB a5 c1;go_region_law ((refine step_append_lies _ (by rfl) _ _ 99 (by rfl) 0 114 i0 (.agg #[.slice none 0 0,.slice none 0 0]) 2 48 E9 k3 l3 l4 l5 rfl (by decide) (.slice ca n0 cc) n0 (YC LCm) (by rfl) (by exact so.alloc _) ⟨W1.heap.size,0,none⟩ 1 1 [.slice pa np pc,.slice ta tn tc] (by rfl) rfl (by exact yG W1 #[.slice pa np pc,.slice ta tn tc] 114) (by intro u hu;simp at hu;rcases hu with rfl|rfl<;>rfl) (by decide) (by unfold maxLen;omega) (by omega) (sQ _) (W1.heap.size+1) (by simp) ?_;intro gg a6 w8 g8 a7 c9 f0;have c8:w8.cell? ⟨B,1,none⟩=some (.slice ca n0 cc):=a7.cell (by exact j2.out _) (fun e=>g5 e.symm);have j8:w8.frozen? ⟨B,1,none⟩=false:=(DL (a:=⟨B,1,none⟩) (a7.block B (by simp;omega) (fun e=>g5 e.symm))).trans (by exact j3.out _ 1);have y0:w8.cell? ⟨w.heap.size,0,none⟩=some (.slice pa np pc):=a7.cell (by exact j0.out _) (fun e=>h0 e.symm);have y1:w8.cell? ⟨w.heap.size,1,none⟩=some (.slice ta tn tc):=a7.cell (by exact j1.out _) (fun e=>h0 e.symm)))
 all_goals
  have m1:W1.heap.size+1≤w8.heap.size:=by have:=a7.size;simp at this;omega
  have a9:∀k,k<W1.heap.size→(Value.slice ca n0 cc).ownBlock≠some k→w8.heap[k]? =W1.heap[k]? :=fun k hk k9=>by
   rw[a7.block k (by simp;omega) (fun e=>k9 e.symm)];exact heap_alloc_old W1 _ hk
  have m2:=j7.out;have d7:ze (fun b=>(Value.slice ca n0 cc).ownBlock=some b) w w8:=⟨a7.os.trans d6.out.os,a7.tape.trans d6.out.tape,a7.output.trans d6.out.output,by omega,fun k hk hn=>by
   rw[a9 k (by omega) hn];exact d6.out.block k hk⟩
  have e3:∀b,(Value.slice (some ⟨gg,0,none⟩) (n0+1) a6).ownBlock=some b→(Value.slice ca n0 cc).ownBlock=some b∨W1.heap.size<b:=fun b e=>by
   have e' :gg=b:=Option.some.inj e;rcases c9 with h1|h1
   ·exact .inl (by rw[←e'];exact h1)
   ·exact .inr (by omega)
  have b6:∀b,(M b∨(O b∨(Value.slice (some ⟨gg,0,none⟩) (n0+1) a6).ownBlock=some b))→M b∨w.heap.size≤b:=fun b e=>by
   rcases e with e|e|e
   ·exact .inl e
   ·exact .inl (c7 b e)
   ·rcases e3 b e with e|e
    ·exact .inl (c7 b (d4 b e).1)
    ·exact .inr (by omega)
  have g6:∀b,(Value.slice ca n0 cc).ownBlock=some b→M b:=fun b e=>c7 b (d4 b e).1
  obtain⟨e2,a2,d9⟩:=ub (c:=c) (v3:= .slice (some ⟨gg,0,none⟩) (n0+1) a6) (tv:= .slice ta tn tc) (pv:= .slice pa np pc) HP.out (w5:=w8) (by rw[f7.out];exact d7) (by rw[i8.out,←f8.out];exact g8) (fun g e=>by
   rw[f7.out];rcases e3 g e with e|e
   ·exact .inl e
   ·exact .inr (by omega)) (g1.out.step d7 g6 b6) (by have:=f9.out.step d7 g6 b6;rw[←b8.out]at this⊢;exact this)
  have b3:=f9.out.step (M' :=fun b=>M b∨(O b∨(Value.slice (some ⟨gg,0,none⟩) (n0+1) a6).ownBlock=some b)) a2 c7 b6;have b4:=g1.out.step (M' :=fun b=>M b∨(O b∨(Value.slice (some ⟨gg,0,none⟩) (n0+1) a6).ownBlock=some b)) a2 c7 b6;have g3:=HG.out.kept a2 h6;have t0:(w8.setCell ⟨B,1,none⟩ (.slice (some ⟨gg,0,none⟩) (n0+1) a6)).cell? ⟨w.heap.size,0,none⟩=some (.slice pa np pc):=((ze.refl (fun b=>b=B) w8).setCell (p:=⟨B,1,none⟩) (.inl rfl) _|>.cell (p:=⟨w.heap.size,0,none⟩) (show w.heap.size<_ by omega) (show¬w.heap.size=B by omega)).trans y0;have t1:(w8.setCell ⟨B,1,none⟩ (.slice (some ⟨gg,0,none⟩) (n0+1) a6)).cell? ⟨w.heap.size,1,none⟩=some (.slice ta tn tc):=((ze.refl (fun b=>b=B) w8).setCell (p:=⟨B,1,none⟩) (.inl rfl) _|>.cell (p:=⟨w.heap.size,1,none⟩) (show w.heap.size<_ by omega) (show¬w.heap.size=B by omega)).trans y1;have f6 :w.heap.size<(w8.setCell ⟨B,1,none⟩ (.slice (some ⟨gg,0,none⟩) (n0+1) a6)).heap.size:=by rw[EB];omega
  have g7:gg≠w.heap.size:=fun e=>by
   rcases e3 gg rfl with h1|h1
   ·have:=e7 gg (d4 gg h1).1;omega
   ·omega
  clear c8 j8 y0 y1 g8 a7 c9 f0 a9 d7 e3;go_wp2;generalize w8.setCell ⟨B,1,none⟩ (.slice (some ⟨gg,0,none⟩) (n0+1) a6)=W9 at*;obtain⟨v3,b5⟩:∃v3,v3=Value.slice (some ⟨gg,0,none⟩) (n0+1) a6:=⟨_,rfl⟩
  rw[←b5]at e2 b3 b4 d9 b6;have g4:c.parents.map mA=(c.parents.map fun n:Nat=>(n:Int)).map byteOf:=by
   rw[aE];exact wH fun n _=>(Z_ n).symm
  have a1:Hid (∀W o,Below W9.heap.size W9 W→Below W9.heap.size W9 (W.alloc o)):=fun W o h=>h.alloc h.size o
  have a0:Hid (∀W,Below W9.heap.size W9 W→Below W9.heap.size W9 W.drew):=fun W h=>h.drew
  have b1:Hid (∀W W',Below W9.heap.size W9 W→Below W.heap.size W W' →Below W9.heap.size W9 W'):=fun W W' h h' =>h.trans (h'.mono h.size)
  have b2:Hid (∀W,Below W9.heap.size W9 W→w.heap.size<W.heap.size):=fun W h=>j0b f6 h.size
  have j5:Hid (∀W,Below W9.heap.size W9 W→Calls rJ 86 #[.slice pa np pc] W fun e w' =>e= .returned (.string ⟨(c.parents.map mA).toArray⟩)∧Below W.heap.size W w'):=fun W hW=>by
   have:=yF (.slice pa c.parents.length pc) (c.parents.map fun n:Nat=>(n:Int)) W _ (by
    have h9:=b3.below hW;rw[pA,aE];exact h9) (by rw[pA,←b8.out];omega)
   rw[←g4,←b8.out]at this;exact this
  have j6:Hid (∀W,Below W9.heap.size W9 W→Calls rJ 50 #[.slice ta tn tc] W fun e w' =>e= .returned (.string ⟨(R.Written c.tree).toArray⟩)∧Below W.heap.size W w'):=fun W hW=>Yz _ c.tree W _ (b4.below hW) HT.out.ok (by have:=HT.out.few;omega) (g3.below hW)
  have i9:Hid (∀W,Below W9.heap.size W9 W→PSx W (fun b=>M b∨(O b∨v3.ownBlock=some b)) (fun b=>O b∨v3.ownBlock=some b) B {st with cms:=st.cms++ [c]} bv v3 LB (LCm++ [(c,.slice pa np pc,.slice ta tn tc)])):=fun W hW=>e2.kept (Z:=fun _=>False) (ze.of_below hW) (fun _ e=>e.elim) (fun b e=> .inl e) e2.sub
  have m3:=HT.out.len;have i6:Hid (∀i∈ [[byteOf (np:Int)],c.parents.map mA,R.Written c.tree],i.length≤1000000):=fun i hi=>by
   simp at hi;rcases hi with rfl|rfl|rfl
   ·simp
   ·simp;have:=b8.out;omega
   ·omega
  have l8:Below W9.heap.size W9 W9:=j0g _ _;have l6:=z6 a2;have l7:=z6 d9;have e9:¬(O w.heap.size∨v3.ownBlock=some w.heap.size):=fun e=>by
   rcases e with e|e
   ·have:=e7 _ e;omega
   ·rw[b5]at e;exact g7 (Option.some.inj e)
  have i7:Hid (∀W,Below W9.heap.size W9 W→ze O w W):=fun W hW=>⟨hW.os.trans a2.os,hW.tape.trans a2.tape,hW.output.trans a2.output,j0f a2.size hW.size,fun k hk hn=>by rw[hW.block k (j0b hk a2.size)];exact a2.block k hk hn⟩
  have i4:Hid ({st with cms:=st.cms++ [c],packed:=st.packed++R.record 67 ([[byteOf (np:Int)],c.parents.map mA,R.Written c.tree].flatten)}=R.keepC st c):=by
   show _=_;have: [[byteOf (np:Int)],c.parents.map mA,R.Written c.tree].flatten=R.bodyC c:=by
    rw[Z_,b8.out,R.bodyC];simp
   rw[this];rfl
  have e6:Hid (∀W w9,Below W9.heap.size W9 W→zv W w9 (fun b=>M b∨(O b∨v3.ownBlock=some b)) (fun b=>O b∨v3.ownBlock=some b) B {st with cms:=st.cms++ [c],packed:=st.packed++R.record 67 ([[byteOf (np:Int)],c.parents.map mA,R.Written c.tree].flatten)}→Hid (zv w w9 M O B (R.keepC st c)∧∃a c',w9.cell? ⟨B,1,none⟩=some (.slice a (n0+1) c')∧n0+1≤c' ∧c' ≤maxLen)):=fun W w9 hW a8=>by
   rw[i4.out]at a8;refine⟨zv.trans (i7.out W hW) d9 a8,?_⟩;obtain⟨O2,j9,_⟩:=a8;obtain⟨a,c',h1,h2,h3⟩:=j9.cms1;have k2:(R.keepC st c).cms.length=n0+1:=by rw[f8.out];simp[R.keepC]
   rw[k2]at h1 h2;exact⟨a,c',h1,h2,h3⟩
  have i3:Hid (∀W w9,Below W9.heap.size W9 W→zv W w9 (fun b=>M b∨(O b∨v3.ownBlock=some b)) (fun b=>O b∨v3.ownBlock=some b) B {st with cms:=st.cms++ [c],packed:=st.packed++R.record 67 ([[byteOf (np:Int)],c.parents.map mA,R.Written c.tree].flatten)}→∀o,w9.cell? ⟨w.heap.size,o,none⟩=W.cell? ⟨w.heap.size,o,none⟩):=fun W w9 hW a8 o=>by
   obtain⟨O2,_,k4,_⟩:=a8;exact k4.cell (p:=⟨w.heap.size,o,none⟩) (b2.out W hW) e9
  generalize m0:c.parents.map mA=pbs at*;generalize m5:R.Written c.tree=wtr at*;clear e2 b3 b4 a2 d9 b6 g4 g3 g7 b5;go_region_held3 (fun w' =>w'.cell? ⟨w.heap.size,0,none⟩=some (.slice pa np pc)∧w'.cell? ⟨w.heap.size,1,none⟩=some (.slice ta tn tc)) (go_keep)
   (first
    |(go_at_call 50;refine(j6.out _ (by first|assumption|exact a1.out _ _ (by assumption)|exact a0.out _ (by assumption)|exact a0.out _ (a1.out _ _ (by assumption))|exact a1.out _ _ (a0.out _ (by assumption)))).mono ?_;rintro e w9 ⟨rfl,a3⟩;have b9:=b1.out _ _ (by first|assumption|exact a1.out _ _ (by assumption)|exact a0.out _ (by assumption)|exact a0.out _ (a1.out _ _ (by assumption))|exact a1.out _ _ (a0.out _ (by assumption))) a3;have i1:=b2.out _ b9;have e8:∀o,w9.cell? ⟨w.heap.size,o,none⟩=_:=fun o=>a3.cell (p:=⟨w.heap.size,o,none⟩) (b2.out _ (by first|assumption|exact a1.out _ _ (by assumption)|exact a0.out _ (by assumption)|exact a0.out _ (a1.out _ _ (by assumption))|exact a1.out _ _ (a0.out _ (by assumption))));clear a3)
    |(go_at_call 86;with_reducible refine(j5.out _ (by first|assumption|exact a1.out _ _ (by assumption)|exact a0.out _ (by assumption)|exact a0.out _ (a1.out _ _ (by assumption))|exact a1.out _ _ (a0.out _ (by assumption)))).mono ?_;rintro e w9 ⟨rfl,a3⟩;have b9:=b1.out _ _ (by first|assumption|exact a1.out _ _ (by assumption)|exact a0.out _ (by assumption)|exact a0.out _ (a1.out _ _ (by assumption))|exact a1.out _ _ (a0.out _ (by assumption))) a3;have i1:=b2.out _ b9;have e8:∀o,w9.cell? ⟨w.heap.size,o,none⟩=_:=fun o=>a3.cell (p:=⟨w.heap.size,o,none⟩) (b2.out _ (by first|assumption|exact a1.out _ _ (by assumption)|exact a0.out _ (by assumption)|exact a0.out _ (a1.out _ _ (by assumption))|exact a1.out _ _ (a0.out _ (by assumption))));clear a3)
    |(go_at_call 86;refine(yF _ [(np:Int)] _ (fun _=>False) (by exact ym _ _ rfl #[.int .i64 (np:Int)] 3 (by simp)) (by simp)).mono ?_;rintro e w9 ⟨rfl,a3⟩;have b9:=b1.out _ _ (by first|assumption|exact a1.out _ _ (by assumption)|exact a0.out _ (by assumption)|exact a0.out _ (a1.out _ _ (by assumption))|exact a1.out _ _ (a0.out _ (by assumption))) a3;have i1:=b2.out _ b9;have e8:∀o,w9.cell? ⟨w.heap.size,o,none⟩=_:=fun o=>a3.cell (p:=⟨w.heap.size,o,none⟩) (b2.out _ (by first|assumption|exact a1.out _ _ (by assumption)|exact a0.out _ (by assumption)|exact a0.out _ (a1.out _ _ (by assumption))|exact a1.out _ _ (a0.out _ (by assumption))));clear a3)
    |(go_at_call 69;refine(K_ B 67 67 rfl _ [[byteOf (np:Int)],pbs,wtr] (i9.out _ (by first|assumption|exact a1.out _ _ (by assumption)|exact a0.out _ (by assumption)|exact a0.out _ (a1.out _ _ (by assumption))|exact a1.out _ _ (a0.out _ (by assumption)))) (fun _=>False) (by exact ym _ _ rfl #[.string ⟨[byteOf (np:Int)].toArray⟩,.string ⟨pbs.toArray⟩,.string ⟨wtr.toArray⟩] 9 (by simp)) (by simp) i6.out l0).mono ?_;rintro e w9 ⟨rfl,a8⟩;have g0:=e6.out _ _ (by first|assumption|exact a1.out _ _ (by assumption)|exact a0.out _ (by assumption)|exact a0.out _ (a1.out _ _ (by assumption))|exact a1.out _ _ (a0.out _ (by assumption))) a8;have e8:∀o,w9.cell? ⟨w.heap.size,o,none⟩=_:=i3.out _ _ (by first|assumption|exact a1.out _ _ (by assumption)|exact a0.out _ (by assumption)|exact a0.out _ (a1.out _ _ (by assumption))|exact a1.out _ _ (a0.out _ (by assumption))) a8;clear a8))
  all_goals
   rename_i c6;clear c6;have e1:=g0.out.2;obtain⟨a4,c4,e4,l9,k1⟩:=e1;have j4:=z6 g0.out.1;unfold maxLen at k1;go_wp2;go_ret;exact⟨by first|rfl|simp,j4.out⟩
theorem Oa (B:Nat)(c:UInt8)(ci:Int)(b8:(c.toNat:Int)=ci)(v:Value)(l:List (List UInt8)){w:World}{M O:Nat→Prop}{st:R.St}{bv cv:Value}{LB:List BrP}{LCm:List (R.Cm×Value×Value)}(hP:PSx w M O B st bv cv LB LCm)(Mr:Nat→Prop)(h:Rd w Mr v l.length (l.map S))(hl:l.length≤10)(hi:∀i∈l,i.length≤1000000)(d7:st.packed.length≤1000000000000):
  Calls rJ 69 #[.pointer (some ⟨B,0,none⟩),.int .u8 ci,v] w fun e w' =>e= .returned (.tuple #[])∧YH w w' M O B {st with packed:=st.packed++R.record c l.flatten} bv cv LB LCm:=by
 subst b8;have a5:=fun W (hW:Below w.heap.size w W)=>Oc c v l W Mr (h.below hW) hl hi
 have d8:(R.record c l.flatten).length≤100000000:=by rw[R.record_len];have:=YY l hi;omega
 obtain⟨va,vc,rfl⟩:∃va vc,v= .slice va l.length vc:=by obtain⟨a,cap,e,_⟩:=h;exact⟨a,cap,e⟩
 obtain⟨pv,a0⟩:=hP.pk;have c2:=a0.c2;have b6:=hP.fr 2;have a4:=hP.lt B hP.own;obtain⟨i0,a9,b1,b2,b3⟩:=info_parts Tryz.info5;obtain⟨pa,pc,a1,_⟩:=zl a0.row;have HP:=z9 hP;have b5:=z9 a0;have d4:=z9 a1;have a7:∀W,Below w.heap.size w W→∃a3 n3 k3 w3,(Builtin.append_ #[100,9] 100 #[.slice pa st.packed.length pc,.string ⟨(R.record c l.flatten).toArray⟩]).run rJ W= .ok (.slice a3 n3 k3) w3∧Hid (w3.ownsRow 0 5 1 (.slice a3 n3 k3) (st.packed++R.record c l.flatten).length (rV (st.packed++R.record c l.flatten)))∧Hid (ze (fun b=>pv.ownBlock=some b) w w3)∧Hid (∀g,(Value.slice a3 n3 k3).ownBlock=some g→pv.ownBlock=some g∨w.heap.size≤g)∧w3.cell? ⟨B,2,none⟩=some (.slice pa st.packed.length pc)∧w3.frozen? ⟨B,2,none⟩=false:=by
  intro W hW;have a2:=Zm a0.row hW;obtain⟨v3,w3,h1,h2,h3,h4⟩:=Lib.run_append_own_string (P:=rJ) W 0 100 9 100 5 i0 DC DD a9 b1 b2 b3 pv st.packed.length (rV st.packed) a2 ⟨(R.record c l.flatten).toArray⟩ (by simp[aF,maxLen];omega) (by simp[aF];omega) (sQ _);have a6:pv.ownBlock≠some B:=fun e=>(a0.rowO B e).2.1 rfl
  have d5:W.heap.size≤w3.heap.size:=h3.size;have d6:=hW.size;have hK:ze (fun b=>pv.ownBlock=some b) w w3:=⟨h3.os.trans hW.os,h3.tape.trans hW.tape,h3.output.trans hW.output,by omega,fun k hk hn=>by
   rw[h3.block k (by omega) (fun e=>hn e.symm)];exact hW.block k hk⟩
  have b7:=vk (P:=rJ) W 0 100 9 100 5 i0 DC DD a9 b1 b2 b3 pv st.packed.length (rV st.packed) a2 ⟨(R.record c l.flatten).toArray⟩ (by simp[aF,R.record_len]) (by simp[aF];omega) h1;obtain⟨a3,k3,c9,_⟩:=zl h2;subst c9;refine⟨a3,_,k3,w3,by rw[←a1];exact h1,?_,hK,?_,?_,?_⟩
  ·show World.ownsRow _ _ _ _ _ _ _
   rw[Lib.strCells_eq,←Lib.byteCells_append]at h2;simpa[aF]using h2
  ·intro g hg
   rcases b7 g hg with h|h
   ·exact .inl h
   ·exact .inr (by omega)
  ·rw[hK.cell (p:=⟨B,2,none⟩) a4 a6,c2,a1]
  ·rw[hK.frozen (p:=⟨B,2,none⟩) a4 a6];exact b6
 rw[a1]at c2;have b4:=z9 a7;clear hP a0 a1 a7 h hi;generalize R.record c l.flatten=rc at*;generalize st.packed++rc=pk2 at*;go_enter Tryz.func69,Tryz.ntmps69;go_wp2_with fail
 go_region_law (first
  |((refine vp (by rfl) (.tmp 10) (.tmp 13) 100 9 (by rfl) (.slice pa st.packed.length pc) (.string ⟨rc.toArray⟩) (by rfl) (by rfl) (by exact c8) ?_))
  |((refine oh (R:=fun v w1=>v= .string ⟨rc.toArray⟩∧Below w.heap.size w w1) (by rfl) (by rfl) Tryz.func107 (by rfl) (by rfl) (vals:= #[.int .u8 (c.toNat:Int),.slice va l.length vc]) (by simp[Act.eval,Act.put]) ((a5 _ (j0g _ _).drew).mono fun e w1 ⟨he,hb⟩=>⟨_,he,rfl,((j0g _ _).drew).trans hb⟩) ?_;rintro v0 w1 ⟨rfl,a8⟩;have d2:w1.cell? ⟨B,2,none⟩=some (.slice pa st.packed.length pc):=(a8.cell (p:=⟨B,2,none⟩) a4).trans c2;obtain⟨a3,n3,k3,w3,c8,c7,b9,c6,d3,g3⟩:=b4.out w1 a8)))
 all_goals
  go_end0
  exact⟨rfl,f9 HP.out b5.out b9.out c7.out c6.out⟩
theorem b9 {w:World}{M O:Nat→Prop}{B:Nat}{st:R.St}{bv cv:Value}{LB:List BrP}{LCm:List (R.Cm×Value×Value)}(hP:PSx w M O B st bv cv LB LCm)(c:R.Cm)(pa:Option Addr)(pc:Nat)(ta:Option Addr)(tn tc:Nat)(i1:PT w M (.slice ta tn tc) c.tree)(f6:Rd w M (.slice pa c.parents.length pc) c.parents.length (Xa c.parents))(hM:∀b,M b→b<w.heap.size)(hT:OkT c.tree)(h2:c.parents.length≤2)(hl:st.cms.length<60)(l5:st.packed.length≤1000000000000)(hG:Zy w)(h6:∀b,O b→6≤b):
  Calls rJ 97 #[.pointer (some ⟨B,0,none⟩),.agg #[.slice pa c.parents.length pc,.slice ta tn tc]] w fun e w' =>e= .returned (.int .i64 ((st.cms.length+1:Nat):Int))∧∃k1 e8,YH w w' M O B (R.keepC st c) bv k1 LB e8 :=by
 have g4:=hP.lt B hP.own;have c1:=hP.c1;obtain⟨ca,cc,b7,k8,k9,l0,l3⟩:=zl hP.crow;have d9:LCm.length=st.cms.length:=by rw[←hP.cms,pA]
 obtain⟨n0,d6⟩:∃n0,n0=st.cms.length:=⟨_,rfl⟩
 rw[d9,←d6]at b7 k8;rw[←d6]at hl⊢;rw[b7]at c1;unfold maxLen at k9;have a5:=hP.crow;rw[d9,←d6,b7]at a5;have d5:∀g,(Value.slice ca n0 cc).ownBlock=some g→O g∧g≠B:=fun g e=>by
  have:=hP.crowO g (by rw[b7];exact e);exact⟨this.1,this.2.1⟩
 have HP:=z6 hP;have f9:=z6 b7;have g0:=z6 d6;have j0:=z6 d9;have g3:=z6 i1;have g1:=z6 f6;have HG:=z6 hG;have HT:=z6 hT;have c9:=hP.sub;have e9:=hP.lt;obtain⟨np,f5⟩:∃np,np=c.parents.length:=⟨_,rfl⟩
 rw[←f5]at h2⊢;have b8:=z6 f5;have f7:np≤pc∧pc≤maxLen:=by
  obtain⟨a,k,e,h1,h2,_⟩:=f6;injection e with _ _ e
  subst e;exact⟨by omega,h2⟩
 have i7:Hid (∀o,w.frozen? ⟨B,o,none⟩=false):=hP.fr;unfold maxLen at f7;obtain⟨i0,k6,l6,l7,l8⟩:=info_parts Tryz.info114;have g7:(Value.slice ca n0 cc).ownBlock≠some B:=fun e=>(d5 B e).2 rfl
 clear hP b7 l0 l3 d6 d9 i1 f6 hG hT f5;go_enter E5,E6;go_wp2;have d4:Below w.heap.size w (w.alloc (Obj.cells #[.slice pa np pc,.slice ta tn tc] 114)):=(j0g _ _).alloc (j0a _) _;have i4:(w.alloc (Obj.cells #[.slice pa np pc,.slice ta tn tc] 114)).heap.size=w.heap.size+1:=by simp
 have x0:(w.alloc (Obj.cells #[.slice pa np pc,.slice ta tn tc] 114)).cell? ⟨w.heap.size,0,none⟩=some (.slice pa np pc):=by simp
 have x1:(w.alloc (Obj.cells #[.slice pa np pc,.slice ta tn tc] 114)).cell? ⟨w.heap.size,1,none⟩=some (.slice ta tn tc):=by simp
 generalize w.alloc (Obj.cells #[.slice pa np pc,.slice ta tn tc] 114)=W1 at*;have sB:=(d4.cell (p:=⟨B,1,none⟩) g4).trans c1;have so:=Zm a5 d4;have fB:∀o,W1.frozen? ⟨B,o,none⟩=false:=fun o=>(d4.frozen (p:=⟨B,o,none⟩) g4).trans (i7.out o)
 have rB:∀o,(W1.alloc o).cell? ⟨B,1,none⟩=some (.slice ca n0 cc):=fun o=>by rw[E7 _ _ _ (by omega)];exact sB
 have r0:∀o,(W1.alloc o).cell? ⟨w.heap.size,0,none⟩=some (.slice pa np pc):=fun o=>by rw[E7 _ _ _ (by omega)];exact x0
 have r1:∀o,(W1.alloc o).cell? ⟨w.heap.size,1,none⟩=some (.slice ta tn tc):=fun o=>by rw[E7 _ _ _ (by omega)];exact x1
 have j5:Hid (∀o j,(W1.alloc o).frozen? ⟨B,j,none⟩=false):=fun o j=>by rw[E8 _ _ _ (by omega)];exact fB j
 have j4:=z6 rB;have j2:=z6 r0;have j3:=z6 r1;have d7:=z6 d4;have j9:=z6 i4;have m7:w.heap.size<W1.heap.size:=by omega
 have i2:(Value.slice ca n0 cc).ownBlock≠some w.heap.size:=fun e=>by have:=e9 _ (d5 _ e).1;omega
 clear d4 i4 fB a5 c1;go_region_law ((refine step_append_lies _ (by rfl) _ _ 99 (by rfl) 0 114 i0 (.agg #[.slice none 0 0,.slice none 0 0]) 2 48 E9 k6 l6 l7 l8 rfl (by decide) (.slice ca n0 cc) n0 (YC LCm) (by rfl) (by exact so.alloc _) ⟨W1.heap.size,0,none⟩ 1 1 [.slice pa np pc,.slice ta tn tc] (by rfl) rfl (by exact yG W1 #[.slice pa np pc,.slice ta tn tc] 114) (by intro u hu;simp at hu;rcases hu with rfl|rfl<;>rfl) (by decide) (by unfold maxLen;omega) (by omega) (sQ _) (W1.heap.size+1) (by simp) ?_;intro gg a6 w8 h0 a7 d3 f4;have c8:w8.cell? ⟨B,1,none⟩=some (.slice ca n0 cc):=a7.cell (by exact j4.out _) (fun e=>g7 e.symm);have k2:w8.frozen? ⟨B,1,none⟩=false:=(DL (a:=⟨B,1,none⟩) (a7.block B (by simp;omega) (fun e=>g7 e.symm))).trans (by exact j5.out _ 1);have y0:w8.cell? ⟨w.heap.size,0,none⟩=some (.slice pa np pc):=a7.cell (by exact j2.out _) (fun e=>i2 e.symm);have y1:w8.cell? ⟨w.heap.size,1,none⟩=some (.slice ta tn tc):=a7.cell (by exact j3.out _) (fun e=>i2 e.symm)))
 all_goals
  have m4:W1.heap.size+1≤w8.heap.size:=by have:=a7.size;simp at this;omega
  have a9:∀k,k<W1.heap.size→(Value.slice ca n0 cc).ownBlock≠some k→w8.heap[k]? =W1.heap[k]? :=fun k hk l4=>by
   rw[a7.block k (by simp;omega) (fun e=>l4 e.symm)];exact heap_alloc_old W1 _ hk
  have m5:=j9.out;have d8:ze (fun b=>(Value.slice ca n0 cc).ownBlock=some b) w w8:=⟨a7.os.trans d7.out.os,a7.tape.trans d7.out.tape,a7.output.trans d7.out.output,by omega,fun k hk hn=>by
   rw[a9 k (by omega) hn];exact d7.out.block k hk⟩
  have e6:∀b,(Value.slice (some ⟨gg,0,none⟩) (n0+1) a6).ownBlock=some b→(Value.slice ca n0 cc).ownBlock=some b∨W1.heap.size<b:=fun b e=>by
   have e' :gg=b:=Option.some.inj e;rcases d3 with h1|h1
   ·exact .inl (by rw[←e'];exact h1)
   ·exact .inr (by omega)
  have b6:∀b,(M b∨(O b∨(Value.slice (some ⟨gg,0,none⟩) (n0+1) a6).ownBlock=some b))→M b∨w.heap.size≤b:=fun b e=>by
   rcases e with e|e|e
   ·exact .inl e
   ·exact .inl (c9 b e)
   ·rcases e6 b e with e|e
    ·exact .inl (c9 b (d5 b e).1)
    ·exact .inr (by omega)
  have g8:∀b,(Value.slice ca n0 cc).ownBlock=some b→M b:=fun b e=>c9 b (d5 b e).1
  obtain⟨e3,a2,e2⟩:=ub (c:=c) (v3:= .slice (some ⟨gg,0,none⟩) (n0+1) a6) (tv:= .slice ta tn tc) (pv:= .slice pa np pc) HP.out (w5:=w8) (by rw[f9.out];exact d8) (by rw[j0.out,←g0.out];exact h0) (fun g e=>by
   rw[f9.out];rcases e6 g e with e|e
   ·exact .inl e
   ·exact .inr (by omega)) (g3.out.step d8 g8 b6) (by have:=g1.out.step d8 g8 b6;rw[←b8.out]at this⊢;exact this)
  have b3:=g1.out.step (M' :=fun b=>M b∨(O b∨(Value.slice (some ⟨gg,0,none⟩) (n0+1) a6).ownBlock=some b)) a2 c9 b6;have b4:=g3.out.step (M' :=fun b=>M b∨(O b∨(Value.slice (some ⟨gg,0,none⟩) (n0+1) a6).ownBlock=some b)) a2 c9 b6;have g5:=HG.out.kept a2 h6;have t0:(w8.setCell ⟨B,1,none⟩ (.slice (some ⟨gg,0,none⟩) (n0+1) a6)).cell? ⟨w.heap.size,0,none⟩=some (.slice pa np pc):=((ze.refl (fun b=>b=B) w8).setCell (p:=⟨B,1,none⟩) (.inl rfl) _|>.cell (p:=⟨w.heap.size,0,none⟩) (show w.heap.size<_ by omega) (show¬w.heap.size=B by omega)).trans y0;have t1:(w8.setCell ⟨B,1,none⟩ (.slice (some ⟨gg,0,none⟩) (n0+1) a6)).cell? ⟨w.heap.size,1,none⟩=some (.slice ta tn tc):=((ze.refl (fun b=>b=B) w8).setCell (p:=⟨B,1,none⟩) (.inl rfl) _|>.cell (p:=⟨w.heap.size,1,none⟩) (show w.heap.size<_ by omega) (show¬w.heap.size=B by omega)).trans y1;have f8 :w.heap.size<(w8.setCell ⟨B,1,none⟩ (.slice (some ⟨gg,0,none⟩) (n0+1) a6)).heap.size:=by rw[EB];omega
  have g9:gg≠w.heap.size:=fun e=>by
   rcases e6 gg rfl with h1|h1
   ·have:=e9 gg (d5 gg h1).1;omega
   ·omega
  clear c8 k2 y0 y1 h0 a7 d3 f4 a9 d8 e6;go_wp2;generalize w8.setCell ⟨B,1,none⟩ (.slice (some ⟨gg,0,none⟩) (n0+1) a6)=W9 at*;obtain⟨v3,b5⟩:∃v3,v3=Value.slice (some ⟨gg,0,none⟩) (n0+1) a6:=⟨_,rfl⟩
  rw[←b5]at e3 b3 b4 e2 b6;have g6:c.parents.map mA=(c.parents.map fun n:Nat=>(n:Int)).map byteOf:=by
   rw[aE];exact wH fun n _=>(Z_ n).symm
  have a1:Hid (∀W o,Below W9.heap.size W9 W→Below W9.heap.size W9 (W.alloc o)):=fun W o h=>h.alloc h.size o
  have a0:Hid (∀W,Below W9.heap.size W9 W→Below W9.heap.size W9 W.drew):=fun W h=>h.drew
  have b1:Hid (∀W W',Below W9.heap.size W9 W→Below W.heap.size W W' →Below W9.heap.size W9 W'):=fun W W' h h' =>h.trans (h'.mono h.size)
  have b2:Hid (∀W,Below W9.heap.size W9 W→w.heap.size<W.heap.size):=fun W h=>j0b f8 h.size
  have j7:Hid (∀W,Below W9.heap.size W9 W→Calls rJ 86 #[.slice pa np pc] W fun e w' =>e= .returned (.string ⟨(c.parents.map mA).toArray⟩)∧Below W.heap.size W w'):=fun W hW=>by
   have:=yF (.slice pa c.parents.length pc) (c.parents.map fun n:Nat=>(n:Int)) W _ (by
    have h9:=b3.below hW;rw[pA,aE];exact h9) (by rw[pA,←b8.out];omega)
   rw[←g6,←b8.out]at this;exact this
  have j8:Hid (∀W,Below W9.heap.size W9 W→Calls rJ 50 #[.slice ta tn tc] W fun e w' =>e= .returned (.string ⟨(R.Written c.tree).toArray⟩)∧Below W.heap.size W w'):=fun W hW=>Yz _ c.tree W _ (b4.below hW) HT.out.ok (by have:=HT.out.few;omega) (g5.below hW)
  have j1:Hid (∀W,Below W9.heap.size W9 W→PSx W (fun b=>M b∨(O b∨v3.ownBlock=some b)) (fun b=>O b∨v3.ownBlock=some b) B {st with cms:=st.cms++ [c]} bv v3 LB (LCm++ [(c,.slice pa np pc,.slice ta tn tc)])):=fun W hW=>e3.kept (Z:=fun _=>False) (ze.of_below hW) (fun _ e=>e.elim) (fun b e=> .inl e) e3.sub
  have m6:=HT.out.len;have i8:Hid (∀i∈ [[byteOf (np:Int)],c.parents.map mA,R.Written c.tree],i.length≤1000000):=fun i hi=>by
   simp at hi;rcases hi with rfl|rfl|rfl
   ·simp
   ·simp;have:=b8.out;omega
   ·omega
  have m1:Below W9.heap.size W9 W9:=j0g _ _;have l9:=z6 a2;have m0:=z6 e2;have f3:¬(O w.heap.size∨v3.ownBlock=some w.heap.size):=fun e=>by
   rcases e with e|e
   ·have:=e9 _ e;omega
   ·rw[b5]at e;exact g9 (Option.some.inj e)
  have i9:Hid (∀W,Below W9.heap.size W9 W→ze O w W):=fun W hW=>⟨hW.os.trans a2.os,hW.tape.trans a2.tape,hW.output.trans a2.output,j0f a2.size hW.size,fun k hk hn=>by rw[hW.block k (j0b hk a2.size)];exact a2.block k hk hn⟩
  have i6:Hid ({st with cms:=st.cms++ [c],packed:=st.packed++R.record 67 ([[byteOf (np:Int)],c.parents.map mA,R.Written c.tree].flatten)}=R.keepC st c):=by
   show _=_;have: [[byteOf (np:Int)],c.parents.map mA,R.Written c.tree].flatten=R.bodyC c:=by
    rw[Z_,b8.out,R.bodyC];simp
   rw[this];rfl
  have e7:Hid (∀W w9,Below W9.heap.size W9 W→YH W w9 (fun b=>M b∨(O b∨v3.ownBlock=some b)) (fun b=>O b∨v3.ownBlock=some b) B {st with cms:=st.cms++ [c],packed:=st.packed++R.record 67 ([[byteOf (np:Int)],c.parents.map mA,R.Written c.tree].flatten)} bv v3 LB (LCm++ [(c,.slice pa np pc,.slice ta tn tc)])→Hid (YH w w9 M O B (R.keepC st c) bv v3 LB (LCm++ [(c,.slice pa np pc,.slice ta tn tc)])∧∃a c',w9.cell? ⟨B,1,none⟩=some (.slice a (n0+1) c')∧n0+1≤c' ∧c' ≤maxLen)):=fun W w9 hW a8=>by
   rw[i6.out]at a8;refine⟨YH.trans (i9.out W hW) e2 a8,?_⟩;obtain⟨O2,k3,_⟩:=a8;obtain⟨a,c',h1,h2,h3⟩:=PS.cms1 ⟨_,_,_,_,k3⟩;have k5:(R.keepC st c).cms.length=n0+1:=by rw[g0.out];simp[R.keepC]
   rw[k5]at h1 h2;exact⟨a,c',h1,h2,h3⟩
  have i5:Hid (∀W w9,Below W9.heap.size W9 W→YH W w9 (fun b=>M b∨(O b∨v3.ownBlock=some b)) (fun b=>O b∨v3.ownBlock=some b) B {st with cms:=st.cms++ [c],packed:=st.packed++R.record 67 ([[byteOf (np:Int)],c.parents.map mA,R.Written c.tree].flatten)} bv v3 LB (LCm++ [(c,.slice pa np pc,.slice ta tn tc)])→∀o,w9.cell? ⟨w.heap.size,o,none⟩=W.cell? ⟨w.heap.size,o,none⟩):=fun W w9 hW a8 o=>by
   obtain⟨O2,_,k7,_⟩:=a8;exact k7.cell (p:=⟨w.heap.size,o,none⟩) (b2.out W hW) f3
  generalize m3:c.parents.map mA=pbs at*;generalize m8:R.Written c.tree=wtr at*;clear e3 b3 b4 a2 e2 b6 g6 g5 g9 b5;go_region_held3 (fun w' =>w'.cell? ⟨w.heap.size,0,none⟩=some (.slice pa np pc)∧w'.cell? ⟨w.heap.size,1,none⟩=some (.slice ta tn tc)) (go_keep)
   (first
    |(go_at_call 50;refine(j8.out _ (by first|assumption|exact a1.out _ _ (by assumption)|exact a0.out _ (by assumption)|exact a0.out _ (a1.out _ _ (by assumption))|exact a1.out _ _ (a0.out _ (by assumption)))).mono ?_;rintro e w9 ⟨rfl,a3⟩;have c6:=b1.out _ _ (by first|assumption|exact a1.out _ _ (by assumption)|exact a0.out _ (by assumption)|exact a0.out _ (a1.out _ _ (by assumption))|exact a1.out _ _ (a0.out _ (by assumption))) a3;have i3:=b2.out _ c6;have f0:∀o,w9.cell? ⟨w.heap.size,o,none⟩=_:=fun o=>a3.cell (p:=⟨w.heap.size,o,none⟩) (b2.out _ (by first|assumption|exact a1.out _ _ (by assumption)|exact a0.out _ (by assumption)|exact a0.out _ (a1.out _ _ (by assumption))|exact a1.out _ _ (a0.out _ (by assumption))));clear a3)
    |(go_at_call 86;with_reducible refine(j7.out _ (by first|assumption|exact a1.out _ _ (by assumption)|exact a0.out _ (by assumption)|exact a0.out _ (a1.out _ _ (by assumption))|exact a1.out _ _ (a0.out _ (by assumption)))).mono ?_;rintro e w9 ⟨rfl,a3⟩;have c6:=b1.out _ _ (by first|assumption|exact a1.out _ _ (by assumption)|exact a0.out _ (by assumption)|exact a0.out _ (a1.out _ _ (by assumption))|exact a1.out _ _ (a0.out _ (by assumption))) a3;have i3:=b2.out _ c6;have f0:∀o,w9.cell? ⟨w.heap.size,o,none⟩=_:=fun o=>a3.cell (p:=⟨w.heap.size,o,none⟩) (b2.out _ (by first|assumption|exact a1.out _ _ (by assumption)|exact a0.out _ (by assumption)|exact a0.out _ (a1.out _ _ (by assumption))|exact a1.out _ _ (a0.out _ (by assumption))));clear a3)
    |(go_at_call 86;refine(yF _ [(np:Int)] _ (fun _=>False) (by exact ym _ _ rfl #[.int .i64 (np:Int)] 3 (by simp)) (by simp)).mono ?_;rintro e w9 ⟨rfl,a3⟩;have c6:=b1.out _ _ (by first|assumption|exact a1.out _ _ (by assumption)|exact a0.out _ (by assumption)|exact a0.out _ (a1.out _ _ (by assumption))|exact a1.out _ _ (a0.out _ (by assumption))) a3;have i3:=b2.out _ c6;have f0:∀o,w9.cell? ⟨w.heap.size,o,none⟩=_:=fun o=>a3.cell (p:=⟨w.heap.size,o,none⟩) (b2.out _ (by first|assumption|exact a1.out _ _ (by assumption)|exact a0.out _ (by assumption)|exact a0.out _ (a1.out _ _ (by assumption))|exact a1.out _ _ (a0.out _ (by assumption))));clear a3)
    |(go_at_call 69;refine(Oa B 67 67 rfl _ [[byteOf (np:Int)],pbs,wtr] (j1.out _ (by first|assumption|exact a1.out _ _ (by assumption)|exact a0.out _ (by assumption)|exact a0.out _ (a1.out _ _ (by assumption))|exact a1.out _ _ (a0.out _ (by assumption)))) (fun _=>False) (by exact ym _ _ rfl #[.string ⟨[byteOf (np:Int)].toArray⟩,.string ⟨pbs.toArray⟩,.string ⟨wtr.toArray⟩] 9 (by simp)) (by simp) i8.out l5).mono ?_;rintro e w9 ⟨rfl,a8⟩;have g2:=e7.out _ _ (by first|assumption|exact a1.out _ _ (by assumption)|exact a0.out _ (by assumption)|exact a0.out _ (a1.out _ _ (by assumption))|exact a1.out _ _ (a0.out _ (by assumption))) a8;have f0:∀o,w9.cell? ⟨w.heap.size,o,none⟩=_:=i5.out _ _ (by first|assumption|exact a1.out _ _ (by assumption)|exact a0.out _ (by assumption)|exact a0.out _ (a1.out _ _ (by assumption))|exact a1.out _ _ (a0.out _ (by assumption))) a8;clear a8))
  all_goals
   rename_i c7;clear c7;have e1:=g2.out.2;obtain⟨a4,c4,e4,m2,k4⟩:=e1;have j6:=z6 g2.out.1;unfold maxLen at k4;go_wp2;go_ret;exact⟨by first|rfl|simp,_,_,j6.out⟩
theorem Od (B:Nat)(st:R.St)(name:List UInt8)(head:Nat)(w:World)(M O:Nat→Prop){bv cv:Value}{LB:List BrP}{LCm:List (R.Cm×Value×Value)}(hP:PSx w M O B st bv cv LB LCm)(hf:R.fnd st.brs name<st.brs.length)(a8:Nat)(a4:∀hl:R.fnd st.brs name<LB.length,(LB[R.fnd st.brs name]'hl).2.1=a8)(hi:Inv st)(hh:head≤st.cms.length)(f5:name.length≤1000)(e6:st.packed.length≤1000000000000):
  Calls rJ 48 #[.pointer (some ⟨B,0,none⟩),.string ⟨name.toArray⟩,.int .i64 (head:Int)] w fun e w' =>e= .returned (.tuple #[])∧zv w w' M O B (R.setHead st name head)∧w'.cell? ⟨a8,1,none⟩=some (.int .i64 (head:Int))∧w'.cell? ⟨a8,0,none⟩=some (.string ⟨name.toArray⟩):=by
 have a6:=kb hP hi name;rw[QE]at a6;have b2:st.brs.length=LB.length:=by rw[←hP.brs,pA]
 obtain⟨a,cap,e1,hn,hm,a5,a1⟩:=zl hP.row;have c0:=hP.c0;rw[e1]at c0;unfold maxLen at hm;have f0:=hP.lt B hP.own;have b1:=hi.few;have HR:Hid (R.setHead st name head={st with brs:=st.brs.set (R.fnd st.brs name) {name:=name,head:=head,work:=R.treeOf st head},packed:=st.packed++R.record 66 (mA head::name)}):=rfl;rw[decide_eq_true hf,←j5 hi.sort name hf]at a6;have hl:R.fnd st.brs name<LB.length:=by omega
 have b3:(LB[R.fnd st.brs name]'hl).1.name=name:=by
  have:(LB[R.fnd st.brs name]'hl).1=(st.brs[R.fnd st.brs name]'hf):=by simp only[←hP.brs,List.getElem_map]
  rw[this];exact R.fnd_name _ _ hf
 have c9:=Ye hP head hh b1;have a2:=hP.at_ _ (j0c hl);have hO:=(hP.blk _ (j0c hl)).1;have f3:=hP.lt _ hO;have k1:=a2.c1;have k2:=a2.c2;have f1:=a2.fr 1;have f2:=a2.fr 2;have HP:=z9 hP;have e9:=z9 b3;have HH:=z9 a2
 cases a with
 |none=>have:=(a5 rfl).1;omega
 |some ad=>
 obtain⟨g,rfl,_,f4,_,a0⟩:=a1 ad rfl;have e0:=Qv a0 (R.fnd st.brs name) hl;have HS:Hid (∀(tv:Value) (t:List R.Leaf),PT w M tv t→PSx ((w.setCell ⟨(LB[R.fnd st.brs name]'hl).2.1,1,none⟩ (.int .i64 (head:Int))).setCell ⟨(LB[R.fnd st.brs name]'hl).2.1,2,none⟩ tv) M O B {st with brs:=st.brs.set (R.fnd st.brs name) {name:=name,head:=head,work:=t}} bv cv (LB.set (R.fnd st.brs name) ({name:=name,head:=head,work:=t},(LB[R.fnd st.brs name]'hl).2.1,tv)) LCm∧ze O w ((w.setCell ⟨(LB[R.fnd st.brs name]'hl).2.1,1,none⟩ (.int .i64 (head:Int))).setCell ⟨(LB[R.fnd st.brs name]'hl).2.1,2,none⟩ tv)):=by
  intro tv t a7;have hK:=cr w (LB[R.fnd st.brs name]'hl).2.1 (.int .i64 (head:Int)) tv;exact Qt hP hl (j0g _ _) hK (kq a2 name b3 head (a7.step hK (fun b e=>by subst e;exact hP.sub _ hO) (fun b e=> .inl e)))
 have b8:=a4 hl;generalize(LB[R.fnd st.brs name]'hl).2.1=bb at*;have d4:=z9 b8;have d6:=z9 hl;clear b8 a4;generalize(LB[R.fnd st.brs name]'hl).2.2=t0 at*;clear hP hi a0 a1 a5 b2 hf b3 a2;generalize R.fnd st.brs name=k at*;go_enter Tryz.func48,Tryz.ntmps48;go_wp2_with fail
 refine a6.mono ?_;rintro e w1 ⟨rfl,e7⟩;subst e7;go_wp2_with fail
 refine c9.mono ?_;rintro e w2 ⟨ta,tc,rfl,a7,e8⟩;subst e8;obtain⟨c7,b9⟩:=HS.out _ _ a7;have d7:=z9 c7;have b5:=z9 b9;clear c9 a6 a7 c7 b9;go_wp2_with fail
 have b6:=yF (.slice (some ⟨w2.heap.size,0,none⟩) 1 1) [(head:Int)] (((w2.setCell ⟨bb,1,none⟩ (.int .i64 (head:Int))).setCell ⟨bb,2,none⟩ (.slice ta (R.treeOf st head).length tc)).alloc (.cells #[.int .i64 (head:Int)] 3)) (fun _=>False) (ym _ _ (by simp) #[.int .i64 (head:Int)] 3 (by simp)) (by simp);refine b6.mono ?_;rintro e w7 ⟨rfl,b7⟩;clear b6;generalize d9:((w2.setCell ⟨bb,1,none⟩ (.int .i64 (head:Int))).setCell ⟨bb,2,none⟩ (.slice ta (R.treeOf st head).length tc))=w6 at*;have a3:Below w6.heap.size w6 w7:=((j0g _ _).alloc (j0a _) _).trans (b7.mono (by simp));have a9:Below w6.heap.size w6 (w7.alloc (.cells #[.string ⟨([(head:Int)].map byteOf).toArray⟩,.string ⟨name.toArray⟩] 9)):=a3.alloc a3.size _;have d3:=Oa B 66 66 (by decide) (.slice (some ⟨w7.heap.size,0,none⟩) 2 2) [[(head:Int)].map byteOf,name] (d7.out.below a9) (fun _=>False) (ym w7 _ rfl #[.string ⟨([(head:Int)].map byteOf).toArray⟩,.string ⟨name.toArray⟩] 9 (by simp)) (by simp) (by
  intro i hi;simp only[List.mem_cons,List.not_mem_nil,or_false]at hi;rcases hi with rfl|rfl
  ·simp
  ·omega) e6
 have b4:=z9 a9;have d5:Hid ([[(head:Int)].map byteOf,name].flatten=mA head::name):=by
  show _=_;simp[Z_]
 clear b7 a3 a9 d9;simp only[List.map_cons,List.map_nil]at*;go_wp2_with fail
 refine d3.mono ?_;rintro e w9 ⟨rfl,c8⟩;have d8:=z9 c8;clear c8 d3;go_wp2;go_end0
 refine⟨rfl,?_⟩;have h9:=d8.out;rw[d5.out]at h9;rw[HR.out];obtain⟨O2,c6,e2,e3⟩:=h9;refine⟨⟨O2,⟨_,_,_,_,c6⟩,(b5.out.trans ((ze.of_below b4.out).trans e2)),fun b e=> ?_⟩,?_⟩
 ·rcases e3 b e with e|e
  ·exact .inl e
  ·exact .inr (j0f b5.out.size (j0f b4.out.size e))
 ·have:=c6.at_ _ (j0c (l:=LB.set k ({name:=name,head:=head,work:=R.treeOf st head},bb,.slice ta (R.treeOf st head).length tc)) (n:=k) (by rw[List.length_set];exact d6.out))
  rw[List.getElem_set_self]at this;rw[←d4.out];exact⟨this.c1,this.c0⟩
theorem GI (w:World):Calls rJ 24 #[] w fun e w' =>e= .returned (.pointer (some ⟨w.heap.size,0,none⟩))∧w' =w.alloc (.cells #[.slice none 0 0,.slice none 0 0,.slice none 0 0] 102):=by
 go_enter Tryz.func24,Tryz.ntmps24;go_wp2;go_ret;exact⟨rfl,rfl⟩
theorem Vo {w:World}{M:Nat→Prop}{v:Value}{t:List R.Leaf}(h:PT w M v t):∃a c,v= .slice a t.length c:=by
 obtain⟨L,rfl,⟨a,c,rfl,_⟩,_⟩:=h;exact⟨a,c,by simp⟩
theorem uY {a b:List UInt8}{k l:Int}(h:b=a)(g:l=k):Ending.returned (.tuple #[.string ⟨a.toArray⟩,.int .i64 k])= .returned (.tuple #[.string ⟨b.toArray⟩,.int .i64 l]):=by rw[h,g]
theorem cK (B:Nat)(st:R.St)(name:List UInt8)(w:World)(M O:Nat→Prop)(h:PS w M O B st)(hi:Inv st)(hG:Zy w):
  Calls rJ 20 #[.pointer (some ⟨B,0,none⟩),.string ⟨name.toArray⟩] w fun e w' =>e= .returned (.tuple #[.string ⟨(R.shown st name).1.toArray⟩,.int .i64 (R.shown st name).2])∧Below w.heap.size w w' :=by
 obtain⟨bv,cv,LB,LCm,hP⟩:=h;have a2:=Qa hP hi name;by_cases hf:R.fnd st.brs name<st.brs.length
 ·obtain⟨hl,ha,he,_,a6⟩:=ZI hP name hf
  have a0:¬R.fndI st.brs name<0:=by rw[R.fndI,if_pos hf];omega
  have HR:Hid (R.shown st name=(R.Written (R.workOf st name),0)):=by show _=_;rw[R.shown,if_neg a0]
  have a3:=hP.at_ _ (j0c hl);have a1:=a3.work;have c2:=a3.c2;rw[←a6]at a1;obtain⟨ta,tc,a5⟩:=Vo a1;rw[a5]at c2 a1;have a8:=Yz _ (R.workOf st name) w M a1 (ZG hi name).ok (by have:=(ZG hi name).few;omega) hG;rw[ha]at a2;generalize(LB[R.fnd st.brs name]'hl).2.1=bb at*;clear hP hi hf a0 he ha a6 a1 a3 a5 hG;generalize R.workOf st name=t at*;go_enter ED,EE;go_wp2_with fail
  refine a2.mono ?_;rintro e w1 ⟨rfl,a4⟩;subst a4;go_wp2_with fail
  refine a8.mono ?_;rintro e w2 ⟨rfl,a7⟩;go_wp2;go_ret2;exact⟨uY (by rw[HR.out]) (by rw[HR.out]),a7⟩
 ·have a0:R.fndI st.brs name<0:=by rw[R.fndI,if_neg hf];omega
  have HR:Hid (R.shown st name=([],5)):=by show _=_;rw[R.shown,if_pos a0]
  have ha:Zp LB st name=none:=by rw[Zp,if_neg hf]
  rw[ha]at a2;clear hP hi hf a0 ha;go_enter ED,EE;go_wp2_with fail
  refine a2.mono ?_;rintro e w1 ⟨rfl,a4⟩;subst a4;go_wp2;go_ret2;exact⟨uY (by rw[HR.out]) (by rw[HR.out]),j0g _ _⟩
