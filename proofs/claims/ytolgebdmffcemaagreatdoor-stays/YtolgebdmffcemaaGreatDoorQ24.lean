import Derived.Test.YtolgebdmffcemaaGreatDoorQ23
import Derived.Test.YtolgebdmffcemaaGreatDoorQ18
set_option linter.all false
set_option maxHeartbeats 20000000
set_option maxRecDepth 1000000
namespace Go.Proofs.YtolgebdmffcemaaGreatDoor
open Go.RowKit Go.Shelf
def Yl (x y:R.Leaf):Bool:=decide (pk x=pk y∧x.n=y.n∧x.text=y.text∧x.items=y.items)
theorem Ut {x y:R.Leaf}(hx:OkL x)(hy:OkL y)(hp:x.path=y.path):Yl x y=true↔x=y:=by
 constructor
 ·intro h
  obtain⟨h1,h2,h3,h4⟩:=of_decide_eq_true h;obtain⟨p,k,n,t,it⟩:=x;obtain⟨p',k',n',t',a0⟩:=y;simp only at hp h2 h3 h4;subst hp h2 h3 h4;have hk:k=k' :=by
   rcases hx.kind with e|e|e<;>rcases hy.kind with e' |e' |e' <;>simp only at e e' <;>simp[pk,e.1,e'.1]at h1<;>rw[e.1,e'.1]
  rw[hk]
 ·intro h
  subst h;exact decide_eq_true ⟨rfl,rfl,rfl,rfl⟩
theorem uD (x y:R.Leaf)(ia ja:Option Addr)(ic jc:Nat)(w:World)(M:Nat→Prop)(h:It w M (x,.slice ia x.items.length ic))(h' :It w M (y,.slice ja y.items.length jc)):
  Calls Tryz.prog 132 #[.agg #[.int .i64 (pk x),.int .i64 x.n,.string ⟨x.text.toArray⟩,.slice ia x.items.length ic],.agg #[.int .i64 (pk y),.int .i64 y.n,.string ⟨y.text.toArray⟩,.slice ja y.items.length jc]] w fun e w' =>e= .returned (.bool (Yl x y))∧Below w.heap.size w w' :=by
 have HE:Hid (∀W,Below w.heap.size w W→Calls Tryz.prog 181 #[.slice ia x.items.length ic,.slice ja y.items.length jc] W fun e w' =>e= .returned (.bool (decide (x.items=y.items)))∧Below W.heap.size W w'):=fun W hW=>Fb _ _ x.items y.items W M (Rd.below h hW) (Rd.below h' hW)
 clear h h';by_cases h1:pk x=pk y
 ·by_cases h2:x.n=y.n
  ·by_cases h3:x.text=y.text
   ·have HS:Hid (Yl x y=decide (x.items=y.items)):=by show _=_;simp[Yl,h1,h2,h3]
    have e1:(pk x==pk y)=true:=by simpa using h1
    have e2:(x.n==y.n)=true:=by simpa using h2
    have e3:(x.text==y.text)=true:=by simpa using h3
    have HB:Hid (Below w.heap.size w ((w.alloc (.cells #[.int .i64 (pk x),.int .i64 x.n,.string ⟨x.text.toArray⟩,.slice ia x.items.length ic] 137)).alloc (.cells #[.int .i64 (pk y),.int .i64 y.n,.string ⟨y.text.toArray⟩,.slice ja y.items.length jc] 137))):=((j0g _ _).alloc (j0a _) _).alloc (by simp) _;clear h1 h2 h3;generalize decide (x.items=y.items)=bb at*;go_enter Tryz.func132,Tryz.ntmps132;go_wp2_with fail
    refine(HE.out _ HB.out).mono ?_;rintro e w1 ⟨rfl,a0⟩;have a1:Hid (Below w.heap.size w w1):=HB.out.trans (a0.mono HB.out.size);clear a0
    cases bb
    all_goals
     go_wp2;go_ret;rw[HS.out];exact⟨zz (by simp),a1.out⟩
   ·have HS:Hid (Yl x y=false):=by show _=_;simp[Yl,h3]
    have e1:(pk x==pk y)=true:=by simpa using h1
    have e2:(x.n==y.n)=true:=by simpa using h2
    have e3:(x.text==y.text)=false:=by simpa using h3
    clear h1 h2 h3;go_enter Tryz.func132,Tryz.ntmps132;go_wp2;go_ret;rw[HS.out];exact⟨zz (by simp),((j0g _ _).alloc (j0a _) _).alloc (by simp) _⟩
  ·have HS:Hid (Yl x y=false):=by show _=_;simp[Yl,h2]
   have e1:(pk x==pk y)=true:=by simpa using h1
   have e2:(x.n==y.n)=false:=by simpa using h2
   clear h1 h2;go_enter Tryz.func132,Tryz.ntmps132;go_wp2;go_ret;rw[HS.out];exact⟨zz (by simp),((j0g _ _).alloc (j0a _) _).alloc (by simp) _⟩
 ·have HS:Hid (Yl x y=false):=by show _=_;simp[Yl,h1]
  have e1:(pk x==pk y)=false:=by simpa using h1
  clear h1;go_enter Tryz.func132,Tryz.ntmps132;go_wp2;go_ret;rw[HS.out];exact⟨zz (by simp),((j0g _ _).alloc (j0a _) _).alloc (by simp) _⟩
theorem cK (x y:R.Leaf)(ia ja:Option Addr)(ic jc:Nat)(w:World)(M:Nat→Prop)(h:It w M (x,.slice ia x.items.length ic))(h' :It w M (y,.slice ja y.items.length jc)):
  Calls Tryz.prog 131 #[.agg #[.string ⟨x.path.toArray⟩,.int .i64 (pk x),.int .i64 x.n,.string ⟨x.text.toArray⟩,.slice ia x.items.length ic],.agg #[.string ⟨y.path.toArray⟩,.int .i64 (pk y),.int .i64 y.n,.string ⟨y.text.toArray⟩,.slice ja y.items.length jc]] w fun e w' =>e= .returned (.bool ((x.path==y.path)&&Yl x y))∧Below w.heap.size w w' :=by
 have HE:Hid (∀W,Below w.heap.size w W→Calls Tryz.prog 132 #[.agg #[.int .i64 (pk x),.int .i64 x.n,.string ⟨x.text.toArray⟩,.slice ia x.items.length ic],.agg #[.int .i64 (pk y),.int .i64 y.n,.string ⟨y.text.toArray⟩,.slice ja y.items.length jc]] W fun e w' =>e= .returned (.bool (Yl x y))∧Below W.heap.size W w'):=fun W hW=>uD x y ia ja ic jc W M (Rd.below h hW) (Rd.below h' hW)
 have HB:Hid (Below w.heap.size w ((w.alloc (.cells #[.string ⟨x.path.toArray⟩,.int .i64 (pk x),.int .i64 x.n,.string ⟨x.text.toArray⟩,.slice ia x.items.length ic] 139)).alloc (.cells #[.string ⟨y.path.toArray⟩,.int .i64 (pk y),.int .i64 y.n,.string ⟨y.text.toArray⟩,.slice ja y.items.length jc] 139))):=((j0g _ _).alloc (j0a _) _).alloc (by simp) _;clear h h'
 cases e0:(x.path==y.path)
 ·go_enter Tryz.func131,Tryz.ntmps131
  go_wp2;go_ret;exact⟨zz (by simp),HB.out⟩
 ·generalize Yl x y=bb at*
  go_enter Tryz.func131,Tryz.ntmps131;go_wp2_with fail
  refine(HE.out _ HB.out).mono ?_;rintro e w1 ⟨rfl,a0⟩;have a1:Hid (Below w.heap.size w w1):=HB.out.trans (a0.mono HB.out.size);clear a0
  cases bb
  all_goals
   go_wp2;go_ret;exact⟨zz (by simp),a1.out⟩
theorem ov (v u:Value)(t s:List R.Leaf)(w:World)(M:Nat→Prop)(h:PT w M v t)(h' :PT w M u s)(ht:∀x∈t,OkL x)(hs:∀x∈s,OkL x):
  Calls Tryz.prog 130 #[v,u,.func (.func 131) #[] #[]] w fun e w' =>∃b:Bool,(b=true↔t=s)∧e= .returned (.bool b)∧Below w.heap.size w w' :=by
 obtain⟨L,hL,⟨a,c,rfl,hn,hm,hc⟩,hI⟩:=h;obtain⟨L',b2,⟨a',c',rfl,f7,f6,d3⟩,c7⟩:=h';unfold maxLen at hm f6;have a5:t.length=L.length:=by rw[←hL,List.length_map]
 have a6:s.length=L'.length:=by rw[←b2,List.length_map]
 have HC:=z6 hc;have e6 :=z6 d3;have HI:=z6 hI;have e8 :=z6 c7;have HL:=z6 hL;have e9 :=z6 b2;have HT:=z6 ht;have HS:=z6 hs;clear hc d3 hI c7 hL b2 ht hs;by_cases hl:L.length=L'.length
 ·obtain⟨n,a7⟩:∃n,n=L'.length:=⟨_,rfl⟩
  have b3:L.length=n:=by rw[a7];exact hl
  rw[←a7]at f7 ⊢;rw[b3]at hn⊢;have b8:=z6 a7;have b7:=z6 b3;have a3:=z6 a5;have a2:=z6 a6;clear a7 b3 hl a5 a6;go_enter Tryz.func130,Tryz.ntmps130;go_wp2;go_loopw [17] (fun i wr=>∃k:Nat,k≤n∧i= .int .i64 k∧t.take k=s.take k∧Below w.heap.size w wr) (fun i _=>n-(intOf i).toNat)
  case atStart=>exact⟨0,Nat.zero_le _,rfl,by simp,j0g _ _⟩
  case round=>
   obtain⟨k,hk,rfl,d9,hb⟩:=hrel;have c6:=z6 d9;have HB:=z6 hb;clear d9;by_cases a5:k<n
   ·have d6:k<L.length:=by have:=b7.out;omega
    have d7:k<L'.length:=by have:=b8.out;omega
    obtain⟨b,off,rfl,a4,_,h1⟩:=HC.out (by omega);obtain⟨b',f9,rfl,a0,_,h2⟩:=e6.out (by omega);obtain⟨x,ia,ic,f3,d4,c0,c1,c2,c3,c4⟩:=q9 HI.out h1 k d6;obtain⟨y,ja,jc,f4,d5,e0,e1,e2,e3,e4⟩:=q9 e8.out h2 k d7;have b5:t[k]'(by have:=a3.out;omega)=x:=by
     have e:t[k]? =(L.map (·.1))[k]? :=by rw[HL.out]
     rw[List.getElem?_map,j0d d6,j0d (by have:=a3.out;omega),f3.out]at e;exact Option.some.inj e
    have b4:s[k]'(by have:=a2.out;omega)=y:=by
     have e:s[k]? =(L'.map (·.1))[k]? :=by rw[e9.out]
     rw[List.getElem?_map,j0d d7,j0d (by have:=a2.out;omega),f4.out]at e;exact Option.some.inj e
    have a8:OkL x:=by rw[←b5];exact HT.out _ (j0c _)
    have d8:OkL y:=by rw[←b4];exact HS.out _ (j0c _)
    have up:∀(bb o:Nat) (u:Value),bb<w.heap.size→w.cell? ⟨bb,o,none⟩=some u→wr.cell? ⟨bb,o,none⟩=some u:=fun bb o u h1 h2=>by
     rw[hb.cell (p:=⟨bb,o,none⟩) h1];exact h2
    have c0:=up _ _ _ a4 c0;have c1:=up _ _ _ a4 c1;have c2:=up _ _ _ a4 c2;have c3:=up _ _ _ a4 c3;have c4:=up _ _ _ a4 c4;have e0:=up _ _ _ a0 e0;have e1:=up _ _ _ a0 e1;have e2:=up _ _ _ a0 e2;have e3:=up _ _ _ a0 e3;have e4:=up _ _ _ a0 e4;have f8:=hb.size;have g0:b<wr.heap.size:=by omega
    have f5 :b' <wr.heap.size:=by omega
    have b9:Hid (∀W,Below w.heap.size w W→Calls Tryz.prog 131 #[.agg #[.string ⟨x.path.toArray⟩,.int .i64 (pk x),.int .i64 x.n,.string ⟨x.text.toArray⟩,.slice ia x.items.length ic],.agg #[.string ⟨y.path.toArray⟩,.int .i64 (pk y),.int .i64 y.n,.string ⟨y.text.toArray⟩,.slice ja y.items.length jc]] W fun e w' =>e= .returned (.bool ((x.path==y.path)&&Yl x y))∧Below W.heap.size W w'):=fun W hW=>cK x y ia ja ic jc W M (Rd.below d4 hW) (Rd.below d5 hW)
    have a9:Hid (Below w.heap.size w ((wr.alloc (.cells #[.string ⟨x.path.toArray⟩,.int .i64 (pk x),.int .i64 x.n,.string ⟨x.text.toArray⟩,.slice ia x.items.length ic] 139)).alloc (.cells #[.string ⟨y.path.toArray⟩,.int .i64 (pk y),.int .i64 y.n,.string ⟨y.text.toArray⟩,.slice ja y.items.length jc] 139))):=(hb.alloc f8 _).alloc (by simp;omega) _;have a1:Hid ((((x.path==y.path)&&Yl x y)=true↔x=y)∧t[k]'(by have:=a3.out;omega)=x∧s[k]'(by have:=a2.out;omega)=y):=by
     refine⟨?_,b5,b4⟩;rw[Bool.and_eq_true,beq_iff_eq];constructor
     ·rintro⟨h1,h2⟩
      exact(Ut a8 d8 h1).1 h2
     ·intro e
      subst e;exact⟨rfl,(Ut a8 a8 rfl).2 rfl⟩
    obtain⟨bb,c9⟩:∃bb,bb=((x.path==y.path)&&Yl x y):=⟨_,rfl⟩
    rw[←c9]at a1 b9;clear h1 h2 up d4 d5 b5 b4 hb a8 d8 c9;go_wp2_with fail
    refine(b9.out _ a9.out).mono ?_;rintro e w5 ⟨rfl,c8⟩;have b6:Hid (Below w.heap.size w w5):=a9.out.trans (c8.mono a9.out.size);clear c8
    cases bb
    ·go_wp2
     go_ret;refine⟨false,⟨fun h=>(by cases h),fun h=> ?_⟩,rfl,b6.out⟩;subst h;have h1:=a1.out.2.1;have h2:=a1.out.2.2;exact a1.out.1.2 (h1.symm.trans h2)
    ·go_wp2
     go_roundw
     case rel=>
      refine⟨k+1,by omega,by go_num,?_,b6.out⟩;refine vP t s k (by have:=a3.out;omega) (by have:=a2.out;omega) c6.out ?_;rw[a1.out.2.1,a1.out.2.2];exact a1.out.1.1 (by first|trivial|rfl)
     case measure=>simp[intOf];omega
   ·obtain rfl:k=n:=by omega
    have e7:Hid (t=s):=by
     have:=c6.out;rwa[List.take_of_length_le (by have:=a3.out;have:=b7.out;omega),List.take_of_length_le (by have:=a2.out;have:=b8.out;omega)]at this
    clear hb;go_wp2;go_ret;exact⟨true,⟨fun _=>e7.out,fun _=>rfl⟩,rfl,HB.out⟩
 ·have b0:((L.length:Int) !=(L'.length:Int))=true:=by simp;omega
  have b1:((L.length:Int)==(L'.length:Int))=false:=by simp;omega
  have f0:Hid (t≠s):=fun e=>hl (by rw[←a5,←a6,e])
  clear hl a5 a6;go_enter Tryz.func130,Tryz.ntmps130;go_wp2;go_ret;exact⟨false,⟨fun h=>(by cases h),fun h=>absurd h f0.out⟩,rfl,j0g _ _⟩
theorem cJ (v u:Value)(t s:List R.Leaf)(w:World)(M:Nat→Prop)(h:PT w M v t)(h' :PT w M u s)(ht:∀x∈t,OkL x)(hs:∀x∈s,OkL x):
  Calls Tryz.prog 83 #[v,u] w fun e w' =>∃b:Bool,(b=true↔t=s)∧e= .returned (.bool b)∧Below w.heap.size w w' :=by
 have HE:=z6 (ov v u t s w M h h' ht hs);clear h h' ht hs;go_enter Tryz.func83,Tryz.ntmps83;go_wp2_with fail
 refine HE.out.mono ?_;rintro e w1 ⟨b,a1,rfl,a0⟩;go_wp2;go_ret;exact⟨b,a1,rfl,a0⟩
theorem Tryz.info114:(Tryz.prog.info? 114).map (fun i=>(i.zero,i.size,i.bytes))=some (some (.agg #[.slice none 0 0,.slice none 0 0]),2,48):=by kernel_rfl
theorem oY (L:List (R.Cm×Value×Value))(p:R.Cm×Value×Value):YZ (L++ [p])=YZ L++ [p.2.1,p.2.2]:=by simp[YZ]
theorem Gn {w w5:World}{M O:Nat→Prop}{B:Nat}{st:R.St}{bv cv:Value}{LB:List BrP}{LCm:List (R.Cm×Value×Value)}(hP:PSx w M O B st bv cv LB LCm){v3 tv pv:Value}{c:R.Cm}
  (hK:zh (fun b=>cv.ownBlock=some b) w w5)(a0:w5.ownsRow 0 114 2 v3 (LCm.length+1) (YZ LCm++ [pv,tv]))(a2:∀g,v3.ownBlock=some g→cv.ownBlock=some g∨w.heap.size≤g)
  (b4:PT w5 (fun b=>M b∨(O b∨v3.ownBlock=some b)) tv c.tree)(b3:Rd w5 (fun b=>M b∨(O b∨v3.ownBlock=some b)) pv c.parents.length (c.parents.map fun(n:Nat)=>Value.int .i64 (n:Int))):
  PSx (w5.setCell ⟨B,1,none⟩ v3) (fun b=>M b∨(O b∨v3.ownBlock=some b)) (fun b=>O b∨v3.ownBlock=some b) B {st with cms:=st.cms++ [c]} bv v3 LB (LCm++ [(c,pv,tv)])∧zh O w (w5.setCell ⟨B,1,none⟩ v3)∧(∀b,(O b∨v3.ownBlock=some b)→O b∨w.heap.size≤b):=by
 have a8:=hP.lt B hP.own;have a6:cv.ownBlock≠some B:=fun e=>(hP.crowO B e).2.1 rfl
 have b5:=hK.size;have a1:v3.ownBlock≠some B:=fun e=>by
  rcases a2 B e with e|e
  ·exact a6 e
  ·omega
 have K5:zh (fun b=>b=B) w5 (w5.setCell ⟨B,1,none⟩ v3):=(zh.refl (fun b=>b=B) w5).setCell (p:=⟨B,1,none⟩) (.inl rfl) v3;have Kf:zh (fun b=>cv.ownBlock=some b∨b=B) w (w5.setCell ⟨B,1,none⟩ v3):=(hK.mono (fun b e=> .inl e)).setCell (p:=⟨B,1,none⟩) (.inl (.inr rfl)) v3;have a3:∀o,w5.cell? ⟨B,o,none⟩=w.cell? ⟨B,o,none⟩:=fun o=>hK.cell (p:=⟨B,o,none⟩) a8 a6
 have a5:∀b,(cv.ownBlock=some b∨b=B)→M b:=fun b e=>by
  rcases e with e|e
  ·exact hP.sub b (hP.crowO b e).1
  ·rw[e];exact hP.sub B hP.own
 have b1 :∀b,(O b∨v3.ownBlock=some b)→O b∨w.heap.size≤b:=fun b e=>by
  rcases e with e|e
  ·exact .inl e
  ·rcases a2 b e with e|e
   ·exact .inl (hP.crowO b e).1
   ·exact .inr e
 have a4 :∀b,(M b∨(O b∨v3.ownBlock=some b))→M b∨w.heap.size≤b:=fun b e=>by
  rcases e with e|e
  ·exact .inl e
  ·rcases b1 b e with e|e
   ·exact .inl (hP.sub b e)
   ·exact .inr e
 have a7:∀b,b=B→(M b∨(O b∨v3.ownBlock=some b)):=fun b e=> .inl (by rw[e];exact hP.sub B hP.own)
 have a9:∀b,(M b∨(O b∨v3.ownBlock=some b))→(M b∨(O b∨v3.ownBlock=some b))∨w5.heap.size≤b:=fun b e=> .inl e
 have b2:∀g,O g→cv.ownBlock≠some g→v3.ownBlock≠some g:=fun g h1 h2 e=>by
  rcases a2 g e with e|e
  ·exact h2 e
  ·have:=hP.lt g h1;omega
 refine⟨⟨fun b e=> .inr e,fun b e=> ?_,.inl hP.own,?_,?_,fun o=> ?_,hP.brs,zp hP.row Kf (fun g e e2=> ?_),fun g e=>⟨.inl (hP.rowO g e).1,(hP.rowO g e).2⟩,fun p hp=>(hP.at_ p hp).kept Kf (hP.lt _ (hP.blk p hp).1) (fun e=> ?_) a5 a4,fun p hp=>⟨.inl (hP.blk p hp).1,(hP.blk p hp).2.1,(hP.blk p hp).2.2.1,b2 _ (hP.blk p hp).1 (hP.blk p hp).2.2.2⟩,hP.dist,?_,?_,fun g e=>⟨.inr e,fun e2=>a1 (by rw[←e2];exact e),fun e2=> ?_⟩,fun p hp=> ?_,fun p hp=> ?_,?_⟩,Kf.mono (fun b e=> ?_),b1⟩
 ·rcases e with e|e
  ·exact j0b (hP.lt b e) Kf.size
  ·exact j0b (a0.lt b e).2 K5.size
 ·rw[zJ _ _ _ _ _ (by omega),a3];exact hP.c0
 ·exact Y6 _ _ _ _ cv (by rw[a3];exact hP.c1)
 ·rw[World.frozen?_setCell,hK.frozen (p:=⟨B,o,none⟩) a8 a6];exact hP.fr o
 ·rcases e2 with e2|e2
  ·exact(hP.crowO g e2).2.2 e
  ·exact(hP.rowO g e).2 e2
 ·rcases e with e|e
  ·exact(hP.blk p hp).2.2.2 e
  ·exact(hP.blk p hp).2.1 e
 ·rw[List.map_append,hP.cms];rfl
 ·rw[List.length_append,List.length_singleton,oY]
  exact zp a0 K5 (fun g e e2=>a1 (by rw[←e2];exact e))
 ·rcases a2 g e with e3|e3
  ·exact(hP.crowO g e3).2.2 e2
  ·have:=hP.lt g (hP.rowO g e2).1;omega
 ·rcases List.mem_append.1 hp with hp|hp
  ·exact(hP.ctree p hp).step Kf a5 a4
  ·rw[List.mem_singleton.1 hp];exact b4.step K5 a7 a9
 ·rcases List.mem_append.1 hp with hp|hp
  ·exact(hP.cpar p hp).step Kf a5 a4
  ·rw[List.mem_singleton.1 hp];exact b3.step K5 a7 a9
 ·obtain⟨kv,hk⟩:=hP.pk
  refine⟨kv,by rw[zJ _ _ _ _ _ (by omega),a3];exact hk.c2,zp hk.row Kf (fun g e e2=> ?_),fun g e=>⟨.inl (hk.rowO g e).1,(hk.rowO g e).2.1,(hk.rowO g e).2.2.1,b2 g (hk.rowO g e).1 (hk.rowO g e).2.2.2.1,(hk.rowO g e).2.2.2.2⟩⟩;rcases e2 with e2|e2
  ·exact(hk.rowO g e).2.2.2.1 e2
  ·exact(hk.rowO g e).2.1 e2
 ·rcases e with e|e
  ·exact(hP.crowO b e).1
  ·rw[e];exact hP.own
theorem PS.cms1 {w:World}{M O:Nat→Prop}{B:Nat}{st:R.St}(h:PS w M O B st):∃a c,w.cell? ⟨B,1,none⟩=some (.slice a st.cms.length c)∧st.cms.length≤c∧c≤maxLen:=by
 obtain⟨bv,cv,LB,LCm,hR⟩:=h;obtain⟨a,c,hv,h1,h2,_⟩:=zl hR.crow;have hl:LCm.length=st.cms.length:=by rw[←hR.cms,List.length_map]
 rw[hl]at hv h1;exact⟨a,c,by rw[←hv];exact hR.c1,h1,h2⟩
theorem o8 (B:Nat)(c:UInt8)(ci:Int)(b8:(c.toNat:Int)=ci)(v:Value)(l:List (List UInt8)){w:World}{M O:Nat→Prop}{st:R.St}{bv cv:Value}{LB:List BrP}{LCm:List (R.Cm×Value×Value)}(hP:PSx w M O B st bv cv LB LCm)(Mr:Nat→Prop)(h:Rd w Mr v l.length (l.map S))(hl:l.length≤10)(hi:∀i∈l,i.length≤1000000)(d7:st.packed.length≤1000000000000):
  Calls Tryz.prog 69 #[.pointer (some ⟨B,0,none⟩),.int .u8 ci,v] w fun e w' =>e= .returned (.tuple #[])∧Yz w w' M O B {st with packed:=st.packed++R.record c l.flatten} bv cv LB LCm:=by
 subst b8;have a5:=fun W (hW:Below w.heap.size w W)=>od c v l W Mr (h.below hW) hl hi
 have d8:(R.record c l.flatten).length≤100000000:=by rw[R.record_len];have:=YQ l hi;omega
 obtain⟨va,vc,rfl⟩:∃va vc,v= .slice va l.length vc:=by obtain⟨a,cap,e,_⟩:=h;exact⟨a,cap,e⟩
 obtain⟨pv,a0⟩:=hP.pk;have c2:=a0.c2;have b6:=hP.fr 2;have a4:=hP.lt B hP.own;obtain⟨i0,a9,b1,b2,b3⟩:=info_parts Tryz.info5;obtain⟨pa,pc,a1,_⟩:=zl a0.row;have HP:=z9 hP;have b5:=z9 a0;have d4:=z9 a1;have a7:∀W,Below w.heap.size w W→∃a3 n3 k3 w3,(Builtin.append_ #[100,9] 100 #[.slice pa st.packed.length pc,.string ⟨(R.record c l.flatten).toArray⟩]).run Tryz.prog W= .ok (.slice a3 n3 k3) w3∧Hid (w3.ownsRow 0 5 1 (.slice a3 n3 k3) (st.packed++R.record c l.flatten).length (Lib.byteCells (st.packed++R.record c l.flatten)))∧Hid (zh (fun b=>pv.ownBlock=some b) w w3)∧Hid (∀g,(Value.slice a3 n3 k3).ownBlock=some g→pv.ownBlock=some g∨w.heap.size≤g)∧w3.cell? ⟨B,2,none⟩=some (.slice pa st.packed.length pc)∧w3.frozen? ⟨B,2,none⟩=false:=by
  intro W hW;have a2:=Zt a0.row hW;obtain⟨v3,w3,h1,h2,h3,h4⟩:=Lib.run_append_own_string (P:=Tryz.prog) W 0 100 9 100 5 i0 Tryz.underlying100 Tryz.underlying9 a9 b1 b2 b3 pv st.packed.length (Lib.byteCells st.packed) a2 ⟨(R.record c l.flatten).toArray⟩ (by simp[ByteArray.size,maxLen];omega) (by simp[ByteArray.size];omega) (Nat.zero_le _);have a6:pv.ownBlock≠some B:=fun e=>(a0.rowO B e).2.1 rfl
  have d5:W.heap.size≤w3.heap.size:=h3.size;have d6:=hW.size;have hK:zh (fun b=>pv.ownBlock=some b) w w3:=⟨h3.os.trans hW.os,h3.tape.trans hW.tape,h3.output.trans hW.output,by omega,fun k hk hn=>by
   rw[h3.block k (by omega) (fun e=>hn e.symm)];exact hW.block k hk⟩
  have b7:=QP (P:=Tryz.prog) W 0 100 9 100 5 i0 Tryz.underlying100 Tryz.underlying9 a9 b1 b2 b3 pv st.packed.length (Lib.byteCells st.packed) a2 ⟨(R.record c l.flatten).toArray⟩ (by simp[ByteArray.size,R.record_len]) (by simp[ByteArray.size];omega) h1;obtain⟨a3,k3,c9,_⟩:=zl h2;subst c9;refine⟨a3,_,k3,w3,by rw[←a1];exact h1,?_,hK,?_,?_,?_⟩
  ·show World.ownsRow _ _ _ _ _ _ _
   rw[Lib.strCells_eq,←Lib.byteCells_append]at h2;simpa[ByteArray.size]using h2
  ·intro g hg
   rcases b7 g hg with h|h
   ·exact .inl h
   ·exact .inr (by omega)
  ·rw[hK.cell (p:=⟨B,2,none⟩) a4 a6,c2,a1]
  ·rw[hK.frozen (p:=⟨B,2,none⟩) a4 a6];exact b6
 rw[a1]at c2;have b4:=z9 a7;clear hP a0 a1 a7 h hi;generalize R.record c l.flatten=rc at*;generalize st.packed++rc=pk2 at*;go_enter Tryz.func69,Tryz.ntmps69;go_wp2_with fail
 go_region_law (first
  |((refine QU (by rfl) (.tmp 10) (.tmp 13) 100 9 (by rfl) (.slice pa st.packed.length pc) (.string ⟨rc.toArray⟩) (by rfl) (by rfl) (by exact c8) ?_))
  |((refine Un (R:=fun v w1=>v= .string ⟨rc.toArray⟩∧Below w.heap.size w w1) (by rfl) (by rfl) Tryz.func107 (by rfl) (by rfl) (vals:= #[.int .u8 (c.toNat:Int),.slice va l.length vc]) (by simp[Act.eval,Act.put]) ((a5 _ (j0g _ _).drew).mono fun e w1 ⟨he,hb⟩=>⟨_,he,rfl,((j0g _ _).drew).trans hb⟩) ?_;rintro v0 w1 ⟨rfl,a8⟩;have d2:w1.cell? ⟨B,2,none⟩=some (.slice pa st.packed.length pc):=(a8.cell (p:=⟨B,2,none⟩) a4).trans c2;obtain⟨a3,n3,k3,w3,c8,c7,b9,c6,d3,g3⟩:=b4.out w1 a8)))
 all_goals
  go_end0
  exact⟨rfl,Ga HP.out b5.out b9.out c7.out c6.out⟩
theorem cM {w:World}{M O:Nat→Prop}{B:Nat}{st:R.St}{bv cv:Value}{LB:List BrP}{LCm:List (R.Cm×Value×Value)}(hP:PSx w M O B st bv cv LB LCm)(c:R.Cm)(pa:Option Addr)(pc:Nat)(ta:Option Addr)(tn tc:Nat)(h0:PT w M (.slice ta tn tc) c.tree)(f5:Rd w M (.slice pa c.parents.length pc) c.parents.length (Kk c.parents))(hM:∀b,M b→b<w.heap.size)(hT:OkT c.tree)(h2:c.parents.length≤2)(hl:st.cms.length<60)(k8:st.packed.length≤1000000000000)(hG:ZL w)(h6:∀b,O b→6≤b):
  Calls Tryz.prog 97 #[.pointer (some ⟨B,0,none⟩),.agg #[.slice pa c.parents.length pc,.slice ta tn tc]] w fun e w' =>e= .returned (.int .i64 ((st.cms.length+1:Nat):Int))∧∃j5 e7,Yz w w' M O B (R.keepC st c) bv j5 LB e7 :=by
 have g3:=hP.lt B hP.own;have c1:=hP.c1;obtain⟨ca,cc,b7,k3,k4,k5,k6⟩:=zl hP.crow;have d8:LCm.length=st.cms.length:=by rw[←hP.cms,List.length_map]
 obtain⟨n0,d5⟩:∃n0,n0=st.cms.length:=⟨_,rfl⟩
 rw[d8,←d5]at b7 k3;rw[←d5]at hl⊢;rw[b7]at c1;unfold maxLen at k4;have a5:=hP.crow;rw[d8,←d5,b7]at a5;have d4:∀g,(Value.slice ca n0 cc).ownBlock=some g→O g∧g≠B:=fun g e=>by
  have:=hP.crowO g (by rw[b7];exact e);exact⟨this.1,this.2.1⟩
 have HP:=z6 hP;have f8:=z6 b7;have f9:=z6 d5;have i5:=z6 d8;have g2:=z6 h0;have g0:=z6 f5;have HG:=z6 hG;have HT:=z6 hT;have c7:=hP.sub;have e8:=hP.lt;obtain⟨np,f4⟩:∃np,np=c.parents.length:=⟨_,rfl⟩
 rw[←f4]at h2⊢;have b8:=z6 f4;have f6:np≤pc∧pc≤maxLen:=by
  obtain⟨a,k,e,h1,h2,_⟩:=f5;injection e with _ _ e
  subst e;exact⟨by omega,h2⟩
 have i2:Hid (∀o,w.frozen? ⟨B,o,none⟩=false):=hP.fr;unfold maxLen at f6;obtain⟨i0,k1,k9,l0,l3⟩:=info_parts Tryz.info114;have g6:(Value.slice ca n0 cc).ownBlock≠some B:=fun e=>(d4 B e).2 rfl
 clear hP b7 k5 k6 d5 d8 h0 f5 hG hT f4;go_enter Tryz.func97,Tryz.ntmps97;go_wp2;have d3:Below w.heap.size w (w.alloc (Obj.cells #[.slice pa np pc,.slice ta tn tc] 114)):=(j0g _ _).alloc (j0a _) _;have h7:(w.alloc (Obj.cells #[.slice pa np pc,.slice ta tn tc] 114)).heap.size=w.heap.size+1:=by simp
 have x0:(w.alloc (Obj.cells #[.slice pa np pc,.slice ta tn tc] 114)).cell? ⟨w.heap.size,0,none⟩=some (.slice pa np pc):=by simp
 have x1:(w.alloc (Obj.cells #[.slice pa np pc,.slice ta tn tc] 114)).cell? ⟨w.heap.size,1,none⟩=some (.slice ta tn tc):=by simp
 generalize w.alloc (Obj.cells #[.slice pa np pc,.slice ta tn tc] 114)=W1 at*;have sB:=(d3.cell (p:=⟨B,1,none⟩) g3).trans c1;have so:=Zt a5 d3;have fB:∀o,W1.frozen? ⟨B,o,none⟩=false:=fun o=>(d3.frozen (p:=⟨B,o,none⟩) g3).trans (i2.out o)
 have rB:∀o,(W1.alloc o).cell? ⟨B,1,none⟩=some (.slice ca n0 cc):=fun o=>by rw[World.cell?_alloc_past _ _ _ (by omega)];exact sB
 have r0:∀o,(W1.alloc o).cell? ⟨w.heap.size,0,none⟩=some (.slice pa np pc):=fun o=>by rw[World.cell?_alloc_past _ _ _ (by omega)];exact x0
 have r1:∀o,(W1.alloc o).cell? ⟨w.heap.size,1,none⟩=some (.slice ta tn tc):=fun o=>by rw[World.cell?_alloc_past _ _ _ (by omega)];exact x1
 have j0:Hid (∀o j,(W1.alloc o).frozen? ⟨B,j,none⟩=false):=fun o j=>by rw[World.frozen?_alloc_past _ _ _ (by omega)];exact fB j
 have i9:=z6 rB;have i7:=z6 r0;have i8:=z6 r1;have d6:=z6 d3;have j4:=z6 h7;have m2:w.heap.size<W1.heap.size:=by omega
 have h4:(Value.slice ca n0 cc).ownBlock≠some w.heap.size:=fun e=>by have:=e8 _ (d4 _ e).1;omega
 clear d3 h7 fB a5 c1;go_region_law ((refine step_append_lies _ (by rfl) _ _ 99 (by rfl) 0 114 i0 (.agg #[.slice none 0 0,.slice none 0 0]) 2 48 Tryz.underlying99 k1 k9 l0 l3 rfl (by decide) (.slice ca n0 cc) n0 (YZ LCm) (by rfl) (by exact so.alloc _) ⟨W1.heap.size,0,none⟩ 1 1 [.slice pa np pc,.slice ta tn tc] (by rfl) rfl (by exact yy W1 #[.slice pa np pc,.slice ta tn tc] 114) (by intro u hu;simp at hu;rcases hu with rfl|rfl<;>rfl) (by decide) (by unfold maxLen;omega) (by omega) (Nat.zero_le _) (W1.heap.size+1) (by simp) ?_;intro gg a6 w8 g9 a7 c9 f3;have c8:w8.cell? ⟨B,1,none⟩=some (.slice ca n0 cc):=a7.cell (by exact i9.out _) (fun e=>g6 e.symm);have j6:w8.frozen? ⟨B,1,none⟩=false:=(World.frozen?_of_block (a:=⟨B,1,none⟩) (a7.block B (by simp;omega) (fun e=>g6 e.symm))).trans (by exact j0.out _ 1);have y0:w8.cell? ⟨w.heap.size,0,none⟩=some (.slice pa np pc):=a7.cell (by exact i7.out _) (fun e=>h4 e.symm);have y1:w8.cell? ⟨w.heap.size,1,none⟩=some (.slice ta tn tc):=a7.cell (by exact i8.out _) (fun e=>h4 e.symm)))
 all_goals
  have l9:W1.heap.size+1≤w8.heap.size:=by have:=a7.size;simp at this;omega
  have a9:∀k,k<W1.heap.size→(Value.slice ca n0 cc).ownBlock≠some k→w8.heap[k]? =W1.heap[k]? :=fun k hk k7=>by
   rw[a7.block k (by simp;omega) (fun e=>k7 e.symm)];exact heap_alloc_old W1 _ hk
  have m0:=j4.out;have d7:zh (fun b=>(Value.slice ca n0 cc).ownBlock=some b) w w8:=⟨a7.os.trans d6.out.os,a7.tape.trans d6.out.tape,a7.output.trans d6.out.output,by omega,fun k hk hn=>by
   rw[a9 k (by omega) hn];exact d6.out.block k hk⟩
  have e3:∀b,(Value.slice (some ⟨gg,0,none⟩) (n0+1) a6).ownBlock=some b→(Value.slice ca n0 cc).ownBlock=some b∨W1.heap.size<b:=fun b e=>by
   have e' :gg=b:=Option.some.inj e;rcases c9 with h1|h1
   ·exact .inl (by rw[←e'];exact h1)
   ·exact .inr (by omega)
  have b6:∀b,(M b∨(O b∨(Value.slice (some ⟨gg,0,none⟩) (n0+1) a6).ownBlock=some b))→M b∨w.heap.size≤b:=fun b e=>by
   rcases e with e|e|e
   ·exact .inl e
   ·exact .inl (c7 b e)
   ·rcases e3 b e with e|e
    ·exact .inl (c7 b (d4 b e).1)
    ·exact .inr (by omega)
  have g7:∀b,(Value.slice ca n0 cc).ownBlock=some b→M b:=fun b e=>c7 b (d4 b e).1
  obtain⟨e2,a2,d9⟩:=Gn (c:=c) (v3:= .slice (some ⟨gg,0,none⟩) (n0+1) a6) (tv:= .slice ta tn tc) (pv:= .slice pa np pc) HP.out (w5:=w8) (by rw[f8.out];exact d7) (by rw[i5.out,←f9.out];exact g9) (fun g e=>by
   rw[f8.out];rcases e3 g e with e|e
   ·exact .inl e
   ·exact .inr (by omega)) (g2.out.step d7 g7 b6) (by have:=g0.out.step d7 g7 b6;rw[←b8.out]at this⊢;exact this)
  have b3:=g0.out.step (M' :=fun b=>M b∨(O b∨(Value.slice (some ⟨gg,0,none⟩) (n0+1) a6).ownBlock=some b)) a2 c7 b6;have b4:=g2.out.step (M' :=fun b=>M b∨(O b∨(Value.slice (some ⟨gg,0,none⟩) (n0+1) a6).ownBlock=some b)) a2 c7 b6;have g4:=HG.out.kept a2 h6;have t0:(w8.setCell ⟨B,1,none⟩ (.slice (some ⟨gg,0,none⟩) (n0+1) a6)).cell? ⟨w.heap.size,0,none⟩=some (.slice pa np pc):=((zh.refl (fun b=>b=B) w8).setCell (p:=⟨B,1,none⟩) (.inl rfl) _|>.cell (p:=⟨w.heap.size,0,none⟩) (show w.heap.size<_ by omega) (show¬w.heap.size=B by omega)).trans y0;have t1:(w8.setCell ⟨B,1,none⟩ (.slice (some ⟨gg,0,none⟩) (n0+1) a6)).cell? ⟨w.heap.size,1,none⟩=some (.slice ta tn tc):=((zh.refl (fun b=>b=B) w8).setCell (p:=⟨B,1,none⟩) (.inl rfl) _|>.cell (p:=⟨w.heap.size,1,none⟩) (show w.heap.size<_ by omega) (show¬w.heap.size=B by omega)).trans y1;have f7 :w.heap.size<(w8.setCell ⟨B,1,none⟩ (.slice (some ⟨gg,0,none⟩) (n0+1) a6)).heap.size:=by rw[World.size_setCell];omega
  have g8:gg≠w.heap.size:=fun e=>by
   rcases e3 gg rfl with h1|h1
   ·have:=e8 gg (d4 gg h1).1;omega
   ·omega
  clear c8 j6 y0 y1 g9 a7 c9 f3 a9 d7 e3;go_wp2;generalize w8.setCell ⟨B,1,none⟩ (.slice (some ⟨gg,0,none⟩) (n0+1) a6)=W9 at*;obtain⟨v3,b5⟩:∃v3,v3=Value.slice (some ⟨gg,0,none⟩) (n0+1) a6:=⟨_,rfl⟩
  rw[←b5]at e2 b3 b4 d9 b6;have g5:c.parents.map UInt8.ofNat=(c.parents.map fun n:Nat=>(n:Int)).map byteOf:=by
   rw[List.map_map];exact List.map_congr_left fun n _=>(yV n).symm
  have a1:Hid (∀W o,Below W9.heap.size W9 W→Below W9.heap.size W9 (W.alloc o)):=fun W o h=>h.alloc h.size o
  have a0:Hid (∀W,Below W9.heap.size W9 W→Below W9.heap.size W9 W.drew):=fun W h=>h.drew
  have b1:Hid (∀W W',Below W9.heap.size W9 W→Below W.heap.size W W' →Below W9.heap.size W9 W'):=fun W W' h h' =>h.trans (h'.mono h.size)
  have b2:Hid (∀W,Below W9.heap.size W9 W→w.heap.size<W.heap.size):=fun W h=>j0b f7 h.size
  have j2:Hid (∀W,Below W9.heap.size W9 W→Calls Tryz.prog 86 #[.slice pa np pc] W fun e w' =>e= .returned (.string ⟨(c.parents.map UInt8.ofNat).toArray⟩)∧Below W.heap.size W w'):=fun W hW=>by
   have:=Yt (.slice pa c.parents.length pc) (c.parents.map fun n:Nat=>(n:Int)) W _ (by
    have h9:=b3.below hW;rw[List.length_map,List.map_map];exact h9) (by rw[List.length_map,←b8.out];omega)
   rw[←g5,←b8.out]at this;exact this
  have j3:Hid (∀W,Below W9.heap.size W9 W→Calls Tryz.prog 50 #[.slice ta tn tc] W fun e w' =>e= .returned (.string ⟨(R.Written c.tree).toArray⟩)∧Below W.heap.size W w'):=fun W hW=>qe _ c.tree W _ (b4.below hW) HT.out.ok (by have:=HT.out.few;omega) (g4.below hW)
  have i6:Hid (∀W,Below W9.heap.size W9 W→PSx W (fun b=>M b∨(O b∨v3.ownBlock=some b)) (fun b=>O b∨v3.ownBlock=some b) B {st with cms:=st.cms++ [c]} bv v3 LB (LCm++ [(c,.slice pa np pc,.slice ta tn tc)])):=fun W hW=>e2.kept (Z:=fun _=>False) (zh.of_below hW) (fun _ e=>e.elim) (fun b e=> .inl e) e2.sub
  have m1:=HT.out.len;have i3:Hid (∀i∈ [[byteOf (np:Int)],c.parents.map UInt8.ofNat,R.Written c.tree],i.length≤1000000):=fun i hi=>by
   simp at hi;rcases hi with rfl|rfl|rfl
   ·simp
   ·simp;have:=b8.out;omega
   ·omega
  have l6:Below W9.heap.size W9 W9:=j0g _ _;have l4:=z6 a2;have l5:=z6 d9;have f0:¬(O w.heap.size∨v3.ownBlock=some w.heap.size):=fun e=>by
   rcases e with e|e
   ·have:=e8 _ e;omega
   ·rw[b5]at e;exact g8 (Option.some.inj e)
  have i4:Hid (∀W,Below W9.heap.size W9 W→zh O w W):=fun W hW=>⟨hW.os.trans a2.os,hW.tape.trans a2.tape,hW.output.trans a2.output,j0f a2.size hW.size,fun k hk hn=>by rw[hW.block k (j0b hk a2.size)];exact a2.block k hk hn⟩
  have i1:Hid ({st with cms:=st.cms++ [c],packed:=st.packed++R.record 67 ([[byteOf (np:Int)],c.parents.map UInt8.ofNat,R.Written c.tree].flatten)}=R.keepC st c):=by
   show _=_;have: [[byteOf (np:Int)],c.parents.map UInt8.ofNat,R.Written c.tree].flatten=R.bodyC c:=by
    rw[yV,b8.out,R.bodyC];simp
   rw[this];rfl
  have e6:Hid (∀W w9,Below W9.heap.size W9 W→Yz W w9 (fun b=>M b∨(O b∨v3.ownBlock=some b)) (fun b=>O b∨v3.ownBlock=some b) B {st with cms:=st.cms++ [c],packed:=st.packed++R.record 67 ([[byteOf (np:Int)],c.parents.map UInt8.ofNat,R.Written c.tree].flatten)} bv v3 LB (LCm++ [(c,.slice pa np pc,.slice ta tn tc)])→Hid (Yz w w9 M O B (R.keepC st c) bv v3 LB (LCm++ [(c,.slice pa np pc,.slice ta tn tc)])∧∃a c',w9.cell? ⟨B,1,none⟩=some (.slice a (n0+1) c')∧n0+1≤c' ∧c' ≤maxLen)):=fun W w9 hW a8=>by
   rw[i1.out]at a8;refine⟨Yz.trans (i4.out W hW) d9 a8,?_⟩;obtain⟨O2,j7,_⟩:=a8;obtain⟨a,c',h1,h2,h3⟩:=PS.cms1 ⟨_,_,_,_,j7⟩;have j9:(R.keepC st c).cms.length=n0+1:=by rw[f9.out];simp[R.keepC]
   rw[j9]at h1 h2;exact⟨a,c',h1,h2,h3⟩
  have h8:Hid (∀W w9,Below W9.heap.size W9 W→Yz W w9 (fun b=>M b∨(O b∨v3.ownBlock=some b)) (fun b=>O b∨v3.ownBlock=some b) B {st with cms:=st.cms++ [c],packed:=st.packed++R.record 67 ([[byteOf (np:Int)],c.parents.map UInt8.ofNat,R.Written c.tree].flatten)} bv v3 LB (LCm++ [(c,.slice pa np pc,.slice ta tn tc)])→∀o,w9.cell? ⟨w.heap.size,o,none⟩=W.cell? ⟨w.heap.size,o,none⟩):=fun W w9 hW a8 o=>by
   obtain⟨O2,_,k2,_⟩:=a8;exact k2.cell (p:=⟨w.heap.size,o,none⟩) (b2.out W hW) f0
  generalize l8:c.parents.map UInt8.ofNat=pbs at*;generalize m3:R.Written c.tree=wtr at*;clear e2 b3 b4 a2 d9 b6 g5 g4 g8 b5;go_region_held3 (fun w' =>w'.cell? ⟨w.heap.size,0,none⟩=some (.slice pa np pc)∧w'.cell? ⟨w.heap.size,1,none⟩=some (.slice ta tn tc)) (go_keep)
   (first
    |(go_at_call 50;refine(j3.out _ (by first|assumption|exact a1.out _ _ (by assumption)|exact a0.out _ (by assumption)|exact a0.out _ (a1.out _ _ (by assumption))|exact a1.out _ _ (a0.out _ (by assumption)))).mono ?_;rintro e w9 ⟨rfl,a3⟩;have b9:=b1.out _ _ (by first|assumption|exact a1.out _ _ (by assumption)|exact a0.out _ (by assumption)|exact a0.out _ (a1.out _ _ (by assumption))|exact a1.out _ _ (a0.out _ (by assumption))) a3;have h5:=b2.out _ b9;have e9:∀o,w9.cell? ⟨w.heap.size,o,none⟩=_:=fun o=>a3.cell (p:=⟨w.heap.size,o,none⟩) (b2.out _ (by first|assumption|exact a1.out _ _ (by assumption)|exact a0.out _ (by assumption)|exact a0.out _ (a1.out _ _ (by assumption))|exact a1.out _ _ (a0.out _ (by assumption))));clear a3)
    |(go_at_call 86;with_reducible refine(j2.out _ (by first|assumption|exact a1.out _ _ (by assumption)|exact a0.out _ (by assumption)|exact a0.out _ (a1.out _ _ (by assumption))|exact a1.out _ _ (a0.out _ (by assumption)))).mono ?_;rintro e w9 ⟨rfl,a3⟩;have b9:=b1.out _ _ (by first|assumption|exact a1.out _ _ (by assumption)|exact a0.out _ (by assumption)|exact a0.out _ (a1.out _ _ (by assumption))|exact a1.out _ _ (a0.out _ (by assumption))) a3;have h5:=b2.out _ b9;have e9:∀o,w9.cell? ⟨w.heap.size,o,none⟩=_:=fun o=>a3.cell (p:=⟨w.heap.size,o,none⟩) (b2.out _ (by first|assumption|exact a1.out _ _ (by assumption)|exact a0.out _ (by assumption)|exact a0.out _ (a1.out _ _ (by assumption))|exact a1.out _ _ (a0.out _ (by assumption))));clear a3)
    |(go_at_call 86;refine(Yt _ [(np:Int)] _ (fun _=>False) (by exact Y8 _ _ rfl #[.int .i64 (np:Int)] 3 (by simp)) (by simp)).mono ?_;rintro e w9 ⟨rfl,a3⟩;have b9:=b1.out _ _ (by first|assumption|exact a1.out _ _ (by assumption)|exact a0.out _ (by assumption)|exact a0.out _ (a1.out _ _ (by assumption))|exact a1.out _ _ (a0.out _ (by assumption))) a3;have h5:=b2.out _ b9;have e9:∀o,w9.cell? ⟨w.heap.size,o,none⟩=_:=fun o=>a3.cell (p:=⟨w.heap.size,o,none⟩) (b2.out _ (by first|assumption|exact a1.out _ _ (by assumption)|exact a0.out _ (by assumption)|exact a0.out _ (a1.out _ _ (by assumption))|exact a1.out _ _ (a0.out _ (by assumption))));clear a3)
    |(go_at_call 69;refine(o8 B 67 67 rfl _ [[byteOf (np:Int)],pbs,wtr] (i6.out _ (by first|assumption|exact a1.out _ _ (by assumption)|exact a0.out _ (by assumption)|exact a0.out _ (a1.out _ _ (by assumption))|exact a1.out _ _ (a0.out _ (by assumption)))) (fun _=>False) (by exact Y8 _ _ rfl #[.string ⟨[byteOf (np:Int)].toArray⟩,.string ⟨pbs.toArray⟩,.string ⟨wtr.toArray⟩] 9 (by simp)) (by simp) i3.out k8).mono ?_;rintro e w9 ⟨rfl,a8⟩;have g1:=e6.out _ _ (by first|assumption|exact a1.out _ _ (by assumption)|exact a0.out _ (by assumption)|exact a0.out _ (a1.out _ _ (by assumption))|exact a1.out _ _ (a0.out _ (by assumption))) a8;have e9:∀o,w9.cell? ⟨w.heap.size,o,none⟩=_:=h8.out _ _ (by first|assumption|exact a1.out _ _ (by assumption)|exact a0.out _ (by assumption)|exact a0.out _ (a1.out _ _ (by assumption))|exact a1.out _ _ (a0.out _ (by assumption))) a8;clear a8))
  all_goals
   rename_i c6;clear c6;have e1:=g1.out.2;obtain⟨a4,c4,e4,l7,j8⟩:=e1;have j1:=z6 g1.out.1;unfold maxLen at j8;go_wp2;go_ret;exact⟨by first|rfl|simp,_,_,j1.out⟩
theorem oe (B:Nat)(st:R.St)(name:List UInt8)(head:Nat)(w:World)(M O:Nat→Prop){bv cv:Value}{LB:List BrP}{LCm:List (R.Cm×Value×Value)}(hP:PSx w M O B st bv cv LB LCm)(hf:R.fnd st.brs name<st.brs.length)(a8:Nat)(a4:∀hl:R.fnd st.brs name<LB.length,(LB[R.fnd st.brs name]'hl).2.1=a8)(hi:Inv st)(hh:head≤st.cms.length)(f5:name.length≤1000)(e6:st.packed.length≤1000000000000):
  Calls Tryz.prog 48 #[.pointer (some ⟨B,0,none⟩),.string ⟨name.toArray⟩,.int .i64 (head:Int)] w fun e w' =>e= .returned (.tuple #[])∧zO w w' M O B (R.setHead st name head)∧w'.cell? ⟨a8,1,none⟩=some (.int .i64 (head:Int))∧w'.cell? ⟨a8,0,none⟩=some (.string ⟨name.toArray⟩):=by
 have a6:=Vw hP hi name;rw[Qo]at a6;have b2:st.brs.length=LB.length:=by rw[←hP.brs,List.length_map]
 obtain⟨a,cap,e1,hn,hm,a5,a1⟩:=zl hP.row;have c0:=hP.c0;rw[e1]at c0;unfold maxLen at hm;have f0:=hP.lt B hP.own;have b1:=hi.few;have HR:Hid (R.setHead st name head={st with brs:=st.brs.set (R.fnd st.brs name) {name:=name,head:=head,work:=R.treeOf st head},packed:=st.packed++R.record 66 (UInt8.ofNat head::name)}):=rfl;rw[decide_eq_true hf,←Kz hi.sort name hf]at a6;have hl:R.fnd st.brs name<LB.length:=by omega
 have b3:(LB[R.fnd st.brs name]'hl).1.name=name:=by
  have:(LB[R.fnd st.brs name]'hl).1=(st.brs[R.fnd st.brs name]'hf):=by simp only[←hP.brs,List.getElem_map]
  rw[this];exact R.fnd_name _ _ hf
 have c9:=Yc hP head hh b1;have a2:=hP.at_ _ (j0c hl);have hO:=(hP.blk _ (j0c hl)).1;have f3:=hP.lt _ hO;have k1:=a2.c1;have k2:=a2.c2;have f1:=a2.fr 1;have f2:=a2.fr 2;have HP:=z9 hP;have e9:=z9 b3;have HH:=z9 a2
 cases a with
 |none=>have:=(a5 rfl).1;omega
 |some ad=>
 obtain⟨g,rfl,_,f4,_,a0⟩:=a1 ad rfl;have e0:=Qh a0 (R.fnd st.brs name) hl;have HS:Hid (∀(tv:Value) (t:List R.Leaf),PT w M tv t→PSx ((w.setCell ⟨(LB[R.fnd st.brs name]'hl).2.1,1,none⟩ (.int .i64 (head:Int))).setCell ⟨(LB[R.fnd st.brs name]'hl).2.1,2,none⟩ tv) M O B {st with brs:=st.brs.set (R.fnd st.brs name) {name:=name,head:=head,work:=t}} bv cv (LB.set (R.fnd st.brs name) ({name:=name,head:=head,work:=t},(LB[R.fnd st.brs name]'hl).2.1,tv)) LCm∧zh O w ((w.setCell ⟨(LB[R.fnd st.brs name]'hl).2.1,1,none⟩ (.int .i64 (head:Int))).setCell ⟨(LB[R.fnd st.brs name]'hl).2.1,2,none⟩ tv)):=by
  intro tv t a7;have hK:=fY w (LB[R.fnd st.brs name]'hl).2.1 (.int .i64 (head:Int)) tv;exact Qf hP hl (j0g _ _) hK (VK a2 name b3 head (a7.step hK (fun b e=>by subst e;exact hP.sub _ hO) (fun b e=> .inl e)))
 have b8:=a4 hl;generalize(LB[R.fnd st.brs name]'hl).2.1=bb at*;have d4:=z9 b8;have d6:=z9 hl;clear b8 a4;generalize(LB[R.fnd st.brs name]'hl).2.2=t0 at*;clear hP hi a0 a1 a5 b2 hf b3 a2;generalize R.fnd st.brs name=k at*;go_enter Tryz.func48,Tryz.ntmps48;go_wp2_with fail
 refine a6.mono ?_;rintro e w1 ⟨rfl,e7⟩;subst e7;go_wp2_with fail
 refine c9.mono ?_;rintro e w2 ⟨ta,tc,rfl,a7,e8⟩;subst e8;obtain⟨c7,b9⟩:=HS.out _ _ a7;have d7:=z9 c7;have b5:=z9 b9;clear c9 a6 a7 c7 b9;go_wp2_with fail
 have b6:=Yt (.slice (some ⟨w2.heap.size,0,none⟩) 1 1) [(head:Int)] (((w2.setCell ⟨bb,1,none⟩ (.int .i64 (head:Int))).setCell ⟨bb,2,none⟩ (.slice ta (R.treeOf st head).length tc)).alloc (.cells #[.int .i64 (head:Int)] 3)) (fun _=>False) (Y8 _ _ (by simp) #[.int .i64 (head:Int)] 3 (by simp)) (by simp);refine b6.mono ?_;rintro e w7 ⟨rfl,b7⟩;clear b6;generalize d9:((w2.setCell ⟨bb,1,none⟩ (.int .i64 (head:Int))).setCell ⟨bb,2,none⟩ (.slice ta (R.treeOf st head).length tc))=w6 at*;have a3:Below w6.heap.size w6 w7:=((j0g _ _).alloc (j0a _) _).trans (b7.mono (by simp));have a9:Below w6.heap.size w6 (w7.alloc (.cells #[.string ⟨([(head:Int)].map byteOf).toArray⟩,.string ⟨name.toArray⟩] 9)):=a3.alloc a3.size _;have d3:=o8 B 66 66 (by decide) (.slice (some ⟨w7.heap.size,0,none⟩) 2 2) [[(head:Int)].map byteOf,name] (d7.out.below a9) (fun _=>False) (Y8 w7 _ rfl #[.string ⟨([(head:Int)].map byteOf).toArray⟩,.string ⟨name.toArray⟩] 9 (by simp)) (by simp) (by
  intro i hi;simp only[List.mem_cons,List.not_mem_nil,or_false]at hi;rcases hi with rfl|rfl
  ·simp
  ·omega) e6
 have b4:=z9 a9;have d5:Hid ([[(head:Int)].map byteOf,name].flatten=UInt8.ofNat head::name):=by
  show _=_;simp[yV]
 clear b7 a3 a9 d9;simp only[List.map_cons,List.map_nil]at*;go_wp2_with fail
 refine d3.mono ?_;rintro e w9 ⟨rfl,c8⟩;have d8:=z9 c8;clear c8 d3;go_wp2;go_end0
 refine⟨rfl,?_⟩;have h9:=d8.out;rw[d5.out]at h9;rw[HR.out];obtain⟨O2,c6,e2,e3⟩:=h9;refine⟨⟨O2,⟨_,_,_,_,c6⟩,(b5.out.trans ((zh.of_below b4.out).trans e2)),fun b e=> ?_⟩,?_⟩
 ·rcases e3 b e with e|e
  ·exact .inl e
  ·exact .inr (j0f b5.out.size (j0f b4.out.size e))
 ·have:=c6.at_ _ (j0c (l:=LB.set k ({name:=name,head:=head,work:=R.treeOf st head},bb,.slice ta (R.treeOf st head).length tc)) (n:=k) (by rw[List.length_set];exact d6.out))
  rw[List.getElem_set_self]at this;rw[←d4.out];exact⟨this.c1,this.c0⟩
theorem Fg (w:World):Calls Tryz.prog 24 #[] w fun e w' =>e= .returned (.pointer (some ⟨w.heap.size,0,none⟩))∧w' =w.alloc (.cells #[.slice none 0 0,.slice none 0 0,.slice none 0 0] 102):=by
 go_enter Tryz.func24,Tryz.ntmps24;go_wp2;go_ret;exact⟨rfl,rfl⟩
theorem vU {w:World}{M:Nat→Prop}{v:Value}{t:List R.Leaf}(h:PT w M v t):∃a c,v= .slice a t.length c:=by
 obtain⟨L,rfl,⟨a,c,rfl,_⟩,_⟩:=h;exact⟨a,c,by simp⟩
theorem ub {a b:List UInt8}{k l:Int}(h:b=a)(g:l=k):Ending.returned (.tuple #[.string ⟨a.toArray⟩,.int .i64 k])= .returned (.tuple #[.string ⟨b.toArray⟩,.int .i64 l]):=by rw[h,g]
theorem CF (B:Nat)(st:R.St)(name:List UInt8)(w:World)(M O:Nat→Prop)(h:PS w M O B st)(hi:Inv st)(hG:ZL w):
  Calls Tryz.prog 20 #[.pointer (some ⟨B,0,none⟩),.string ⟨name.toArray⟩] w fun e w' =>e= .returned (.tuple #[.string ⟨(R.shown st name).1.toArray⟩,.int .i64 (R.shown st name).2])∧Below w.heap.size w w' :=by
 obtain⟨bv,cv,LB,LCm,hP⟩:=h;have a2:=vv hP hi name;by_cases hf:R.fnd st.brs name<st.brs.length
 ·obtain⟨hl,ha,he,_,a6⟩:=ZN hP name hf
  have a0:¬R.fndI st.brs name<0:=by rw[R.fndI,if_pos hf];omega
  have HR:Hid (R.shown st name=(R.Written (R.workOf st name),0)):=by show _=_;rw[R.shown,if_neg a0]
  have a3:=hP.at_ _ (j0c hl);have a1:=a3.work;have c2:=a3.c2;rw[←a6]at a1;obtain⟨ta,tc,a5⟩:=vU a1;rw[a5]at c2 a1;have a8:=qe _ (R.workOf st name) w M a1 (ZB hi name).ok (by have:=(ZB hi name).few;omega) hG;rw[ha]at a2;generalize(LB[R.fnd st.brs name]'hl).2.1=bb at*;clear hP hi hf a0 he ha a6 a1 a3 a5 hG;generalize R.workOf st name=t at*;go_enter Tryz.func20,Tryz.ntmps20;go_wp2_with fail
  refine a2.mono ?_;rintro e w1 ⟨rfl,a4⟩;subst a4;go_wp2_with fail
  refine a8.mono ?_;rintro e w2 ⟨rfl,a7⟩;go_wp2;go_ret2;exact⟨ub (by rw[HR.out]) (by rw[HR.out]),a7⟩
 ·have a0:R.fndI st.brs name<0:=by rw[R.fndI,if_neg hf];omega
  have HR:Hid (R.shown st name=([],5)):=by show _=_;rw[R.shown,if_pos a0]
  have ha:Zs LB st name=none:=by rw[Zs,if_neg hf]
  rw[ha]at a2;clear hP hi hf a0 ha;go_enter Tryz.func20,Tryz.ntmps20;go_wp2_with fail
  refine a2.mono ?_;rintro e w1 ⟨rfl,a4⟩;subst a4;go_wp2;go_ret2;exact⟨ub (by rw[HR.out]) (by rw[HR.out]),j0g _ _⟩
theorem Y1 {w:World}{M O:Nat→Prop}{B:Nat}{st:R.St}(h:PS w M O B st)(n:Int):
  Calls Tryz.prog 51 #[.pointer (some ⟨B,0,none⟩),.int .i64 n] w fun e w' =>e= .returned (.bool (decide (1≤n∧n≤(st.cms.length:Int))))∧w' =w:=by
 obtain⟨a,c,e0,h1,h2⟩:=h.cms1;unfold maxLen at h2;clear h;by_cases hn:1≤n
 ·by_cases hm:n≤(st.cms.length:Int)
  ·have HS:Hid (decide (1≤n∧n≤(st.cms.length:Int))=true):=decide_eq_true ⟨hn,hm⟩
   rw[HS.out];go_enter Tryz.func51,Tryz.ntmps51;go_wp2;go_ret;exact⟨rfl,rfl⟩
  ·have HS:Hid (decide (1≤n∧n≤(st.cms.length:Int))=false):=decide_eq_false (fun e=>hm e.2)
   rw[HS.out];go_enter Tryz.func51,Tryz.ntmps51;go_wp2;go_ret;exact⟨rfl,rfl⟩
 ·have HS:Hid (decide (1≤n∧n≤(st.cms.length:Int))=false):=decide_eq_false (fun e=>hn e.1)
  rw[HS.out];go_enter Tryz.func51,Tryz.ntmps51;go_wp2;go_ret;exact⟨rfl,rfl⟩
theorem CD (B:Nat)(st:R.St)(n:Int)(w:World)(M O:Nat→Prop)(h:PS w M O B st)(hi:Inv st)(hG:ZL w):
  Calls Tryz.prog 22 #[.pointer (some ⟨B,0,none⟩),.int .i64 n] w fun e w' =>e= .returned (.tuple #[.string ⟨(R.treeAt st n).1.toArray⟩,.int .i64 (R.treeAt st n).2])∧Below w.heap.size w w' :=by
 have a1:=Y1 h n;have HH:=z6 a1;by_cases hc:n<1∨(st.cms.length:Int)<n
 ·have HS:Hid (R.treeAt st n=([],10)):=by show _=_;rw[R.treeAt,if_pos hc]
  have HD:Hid (decide (1≤n∧n≤(st.cms.length:Int))=false):=decide_eq_false (by omega);rw[HD.out]at HH;clear h hi hG a1 hc;go_enter Tryz.func22,Tryz.ntmps22;go_wp2_with fail
  refine HH.out.mono ?_;rintro e w1 ⟨rfl,a3⟩;subst a3;go_wp2;go_ret2;exact⟨ub (by rw[HS.out]) (by rw[HS.out]),j0g _ _⟩
 ·obtain⟨m,rfl⟩:∃m:Nat,n=(m:Int):=⟨n.toNat,by omega⟩
  have HS:Hid (R.treeAt st (m:Int)=(R.Written (R.treeOf st m),0)):=by show _=_;rw[R.treeAt,if_neg hc];rfl
  have HD:Hid (decide (1≤(m:Int)∧(m:Int)≤(st.cms.length:Int))=true):=decide_eq_true (by omega);rw[HD.out]at HH;have a2:=Xg hi m;obtain⟨bv,cv,LB,LCm,hP⟩:=h;have HT:=z6 (Yc hP m (by omega) hi.few);have HW:Hid (∀ta tc,PT w M (.slice ta (R.treeOf st m).length tc) (R.treeOf st m)→Calls Tryz.prog 50 #[.slice ta (R.treeOf st m).length tc] w fun e w' =>e= .returned (.string ⟨(R.Written (R.treeOf st m)).toArray⟩)∧Below w.heap.size w w'):=fun ta tc a0=>qe _ _ w M a0 a2.ok (by have:=a2.few;omega) hG
  clear hP hi hG a1 hc a2;generalize R.treeOf st m=t at*;go_enter Tryz.func22,Tryz.ntmps22;go_wp2_with fail
  refine HH.out.mono ?_;rintro e w1 ⟨rfl,a3⟩;subst a3;go_wp2_with fail
  refine HT.out.mono ?_;rintro e w2 ⟨ta,tc,rfl,a0,a6⟩;subst a6;have a4:=z6 (HW.out ta tc a0);clear a0;go_wp2_with fail
  refine a4.out.mono ?_;rintro e w3 ⟨rfl,a5⟩;go_wp2;go_ret2;exact⟨ub (by rw[HS.out]) (by rw[HS.out]),a5⟩
theorem oh (n:Nat)(w:World):
  Calls Tryz.prog 59 #[.int .i64 (n:Int)] w fun e w' =>∃pa pc,e= .returned (.slice pa (R.parsOf n).length pc)∧Rd w' (fun b=>b<w.heap.size) (.slice pa (R.parsOf n).length pc) (R.parsOf n).length (Kk (R.parsOf n))∧Below w.heap.size w w' :=by
 by_cases h0:n=0
 ·subst h0
  go_enter Tryz.func59,Tryz.ntmps59;go_wp2;go_ret;exact⟨none,0,rfl,⟨none,0,rfl,j0a _,by unfold maxLen;omega,fun h=>absurd h (by simp[R.parsOf])⟩,j0g _ _⟩
 ·have HS:Hid (R.parsOf n=[n]):=by show _=_;rw[R.parsOf,if_neg h0]
  have b0:((n:Int)==0)=false:=by simp;omega
  clear h0;go_enter Tryz.func59,Tryz.ntmps59;go_wp2;go_ret;rw[HS.out];refine⟨some ⟨w.heap.size,0,none⟩,1,rfl,⟨_,1,rfl,j0a _,by unfold maxLen;omega,fun _=>⟨w.heap.size,0,rfl,by simp,Nat.lt_irrefl _,fun j u hu=> ?_⟩⟩,(j0g _ _).alloc (j0a _) _⟩;match j,hu with
  |0,hu=>simp[Kk]at hu;subst hu;simp
theorem oA {w:World}{M O:Nat→Prop}{B:Nat}{st:R.St}{bv cv:Value}{LB:List BrP}{LCm:List (R.Cm×Value×Value)}(hP:PSx w M O B st bv cv LB LCm)(hi:Inv st)(p:BrP)(hp:p∈LB):
  Calls Tryz.prog 46 #[.pointer (some ⟨B,0,none⟩),.pointer (some ⟨p.2.1,0,none⟩)] w fun e w' =>∃b:Bool,(b=false↔p.1.work=R.treeOf st p.1.head)∧e= .returned (.bool b)∧Below w.heap.size w w' :=by
 have a3:=hP.at_ p hp;have a6:p.1∈st.brs:=by rw[←hP.brs];exact List.mem_map_of_mem hp
 have a1:=hi.work _ a6;have a2:=Xg hi p.1.head;have b3:=hP.lt _ (hP.blk p hp).1;have c1:=a3.c1;have c2:=a3.c2;have a4:=a3.work;obtain⟨ta,tn,tc,a8⟩:∃a n k,p.2.2= .slice a n k:=by obtain⟨L,_,⟨a,k,e,_⟩,_⟩:=a4;exact⟨a,_,k,e⟩
 rw[a8]at c2 a4;have HT:Hid (∀q,Calls Tryz.prog 52 #[.pointer (some ⟨B,0,none⟩),.int .i64 (p.1.head:Int)] (w.drewN q) fun e w' =>∃ta tc,e= .returned (.slice ta (R.treeOf st p.1.head).length tc)∧PT (w.drewN q) M (.slice ta (R.treeOf st p.1.head).length tc) (R.treeOf st p.1.head)∧w' =w.drewN q):=fun q=>Yc (hP.kept (Z:=fun _=>False) (zh.of_below (below_drewN (j0g _ _) q)) (fun _ e=>e.elim) (fun b e=> .inl e) hP.sub) p.1.head (hi.heads _ a6) hi.few
 have HS:Hid (∀q va vc,PT (w.drewN q) M (.slice va (R.treeOf st p.1.head).length vc) (R.treeOf st p.1.head)→Calls Tryz.prog 83 #[.slice ta tn tc,.slice va (R.treeOf st p.1.head).length vc] (w.drewN q) fun e w' =>∃b:Bool,(b=true↔p.1.work=R.treeOf st p.1.head)∧e= .returned (.bool b)∧Below w.heap.size (w.drewN q) w'):=fun q va vc h=>cJ _ _ _ _ _ M (a4.below (below_drewN (j0g _ _) q)) h a1.ok a2.ok
 clear a3 a1 a2 a4 a8 hP hi a6 hp;generalize R.treeOf st p.1.head=t at*;generalize p.1.head=hd at*;generalize p.1.work=wk at*;generalize p.2.1=bb at*;go_enter Tryz.func46,Tryz.ntmps46;go_wp2;go_region_held3 (fun w' =>w'.cell? ⟨bb,1,none⟩=some (.int .i64 (hd:Int))∧w'.cell? ⟨bb,2,none⟩=some (.slice ta tn tc)) (go_keep)
  (first
   |(go_at_call 52;refine(HT.out 1).mono ?_;rintro e w9 ⟨va,vc,rfl,a7,b4⟩;subst b4;have b2:=z6 a7;clear a7)
   |(go_at_call 83;refine(HS.out 1 _ _ b2.out).mono ?_;rintro e w9 ⟨b,hb,rfl,a5⟩;have b5:∀o,w9.cell? ⟨bb,o,none⟩=_:=fun o=>a5.cell (p:=⟨bb,o,none⟩) b3;have b1:=z6 a5;have a9:=z6 hb;clear a5 hb))
 all_goals
  rename_i a0;clear a0;go_wp2;go_ret;refine⟨_,?_,rfl,(below_drewN (j0g _ _) 1).trans b1.out⟩;have:=a9.out
  cases b<;>simp at this⊢<;>first|exact this|trivial
theorem KU (v:Value)(l:List (List UInt8))(w:World)(M:Nat→Prop)(h:Rd w M v l.length (l.map S))(hl:l.length≤1000000):
  Calls Tryz.prog 150 #[v] w fun e w' =>∃v',e= .returned v' ∧w'.ownsRow w.heap.size 9 1 v' l.length (l.map S)∧Below w.heap.size w w' :=by
 obtain⟨a,cap,rfl,hn,hm,hc⟩:=h;rcases Nat.eq_zero_or_pos l.length with h0|h0
 ·have a1:l=[]:=List.eq_nil_of_length_eq_zero h0
  subst a1
  cases a with
  |none=>
   refine(Tryz.slices_Clone_string_nil _ _ w).mono ?_;rintro e w' ⟨rfl,rfl⟩;exact⟨_,rfl,World.ownsRow_nil _ _ _ _,j0g _ _⟩
  |some ad=>
   refine(Tryz.slices_Clone_string_zero ad cap w).mono ?_;rintro e w' ⟨v',rfl,ho,_,hb⟩;exact⟨v',rfl,ho,hb⟩
 ·obtain⟨b,off,rfl,hb,_,a0⟩:=hc h0
  have hC:=Tryz.slices_Clone_string b off l.length cap (l.map fun x=>(⟨x.toArray⟩:ByteArray)) w (by simp) (by omega) (fun j hj=>by
   rw[List.length_map]at hj;rw[a0 j (S l[j]) (by rw[List.getElem?_map,j0d hj];rfl)];simp[S,hj])
  refine hC.mono ?_;rintro e w' ⟨v',rfl,ho,_,hb⟩;refine⟨v',rfl,?_,hb⟩;rw[List.take_of_length_le (by simp),List.map_map]at ho;exact ho
def ZO (x:R.Leaf)(l:List (List UInt8)):R.Leaf:={path:=x.path,kind:=42,n:=0,text:=[],items:=l}
theorem gX (l:List (List UInt8)):∀u∈l.map S,u.oneCell' =true:=by
 intro u hu;obtain⟨y,_,rfl⟩:=List.mem_map.1 hu;rfl
theorem OR (x:R.Leaf)(iv:Value)(s:List UInt8)(w:World)(M:Nat→Prop)(hM:∀b,M b→b<w.heap.size)(h:It w M (x,iv))(hk:x=R.none x.path∨(OkL x∧x.kind=42)):
  Calls Tryz.prog 99 #[.agg #[.int .i64 (pk x),.int .i64 x.n,.string ⟨x.text.toArray⟩,iv],.string ⟨s.toArray⟩] w fun e w' =>∃ia ic,e= .returned (.agg #[.int .i64 3,.int .i64 0,.string ⟨#[]⟩,.slice ia (R.item x.items s).length ic])∧It w' M (ZO x (R.item x.items s),.slice ia (R.item x.items s).length ic)∧Below w.heap.size w w' :=by
 have hl:x.items.length≤8:=by
  rcases hk with hk|⟨hk,_⟩
  ·rw[hk];simp[R.none]
  ·exact hk.many
 have a0:Ze x.items:=by
  rcases hk with hk|⟨hk,_⟩
  ·rw[hk];intro i j hi;simp[R.none]at hi
  ·exact hk.sort
 obtain⟨ia,ic,c7,h1,h2,h3⟩:=h;dsimp only at c7 h1 h2 h3;subst c7;have a5:It w M (x,.slice ia x.items.length ic):=⟨ia,ic,rfl,h1,h2,h3⟩
 have a7:=fun W (hW:Below w.heap.size w W)=>Y7 (.slice ia x.items.length ic) x.items s W M (Rd.below a5 hW) (by omega) a0 (a0.mono s)
 have b3:=fun W (hW:Below w.heap.size w W)=>KU (.slice ia x.items.length ic) x.items W M (Rd.below a5 hW) (by omega)
 cases a1:(x.items.any fun y=>y==s)
 ·have HI:Hid (R.item x.items s=x.items.take (xL x.items s)++s::x.items.drop (xL x.items s)):=XE a0 s a1
  have d9:xL x.items s≤x.items.length:=List.findIdx_le_length;rw[a1]at a7;clear h1 h2 h3 a0 hk;generalize xL x.items s=p at*;go_enter Tryz.func99,Tryz.ntmps99;go_wp2_with fail
  refine(a7 _ (((j0g _ _).alloc (j0a _) _).alloc (by simp) _)).mono ?_;rintro e w1 ⟨rfl,b8⟩;subst b8;go_wp2_with fail
  refine(b3 _ (((j0g _ _).alloc (j0a _) _).alloc (by simp) _)).mono ?_;rintro e w2 ⟨v2,rfl,ho,a4⟩;have e6:w.heap.size+2≤w2.heap.size:=by have:=a4.size;simpa using this
  have x0:w2.cell? ⟨w.heap.size+1,0,none⟩=some (.int .i64 0):=by rw[a4.cell (p:=⟨w.heap.size+1,0,none⟩) (by simp)];simp
  have x1:w2.cell? ⟨w.heap.size+1,1,none⟩=some (.int .i64 0):=by rw[a4.cell (p:=⟨w.heap.size+1,1,none⟩) (by simp)];simp
  have x2:w2.cell? ⟨w.heap.size+1,2,none⟩=some (.string ⟨#[]⟩):=by rw[a4.cell (p:=⟨w.heap.size+1,2,none⟩) (by simp)];simp
  have x3:w2.cell? ⟨w.heap.size+1,3,none⟩=some (.slice none 0 0):=by rw[a4.cell (p:=⟨w.heap.size+1,3,none⟩) (by simp)];simp
  have fz:∀j,w2.frozen? ⟨w.heap.size+1,j,none⟩=false:=fun j=>by rw[a4.frozen (p:=⟨w.heap.size+1,j,none⟩) (by simp)];simp
  have b9:Hid (Below w.heap.size w w2):=(((j0g _ _).alloc (j0a _) _).alloc (by simp) _).trans (a4.mono (by simp;omega));have b5 :w2.ownsRow (w.heap.size+2) 9 1 v2 x.items.length (x.items.map S):=by simpa using ho
  have a6:=fun W (hW:Below w2.heap.size w2 W) vb (e1:W.heap[vb]? =some (.cells #[.string ⟨s.toArray⟩] 9 (0,0))) (d8:v2.ownBlock≠some vb)=>gv bg v2 x.items.length p vb (w.heap.size+2) (x.items.map S) #[.string ⟨s.toArray⟩] W (Zt b5 hW) (by have:=hW.size;omega) d9 (by omega) e1 rfl d8 (gX _) (by intro u hu;simp at hu;subst hu;rfl)
  have b1:Hid (∀g,v2.ownBlock=some g→w.heap.size+2≤g∧g<w2.heap.size):=b5.lt;clear a4 ho b5 a5 b3 a7;go_wp2_with fail
  refine(a6 _ ((j0g _ _).alloc (j0a _) _) w2.heap.size (heap_alloc_new w2 _) (fun e=>by have:=b1.out _ e;omega)).mono ?_;rintro e w3 ⟨v3,rfl,b6,b2,_⟩;have e7:w2.heap.size+1≤w3.heap.size:=by have:=b2.size;simpa using this
  have a2:w3.heap[w.heap.size+1]? =w2.heap[w.heap.size+1]? :=by
   rw[b2.block _ (by simp;omega) (fun e=>by have:=b1.out _ e.symm;omega)];exact heap_alloc_old w2 _ (by omega)
  have y0:=(World.cell?_of_block (a:=⟨w.heap.size+1,0,none⟩) a2).trans x0;have y1:=(World.cell?_of_block (a:=⟨w.heap.size+1,1,none⟩) a2).trans x1;have y2:=(World.cell?_of_block (a:=⟨w.heap.size+1,2,none⟩) a2).trans x2;have y3:=(World.cell?_of_block (a:=⟨w.heap.size+1,3,none⟩) a2).trans x3;have f0:=(World.frozen?_of_block (a:=⟨w.heap.size+1,0,none⟩) a2).trans (fz 0);have f1:=(World.frozen?_of_block (a:=⟨w.heap.size+1,1,none⟩) a2).trans (fz 1);have f2:=(World.frozen?_of_block (a:=⟨w.heap.size+1,2,none⟩) a2).trans (fz 2);have f3:=(World.frozen?_of_block (a:=⟨w.heap.size+1,3,none⟩) a2).trans (fz 3);have d5:Hid (Below w.heap.size w w3):=(b9.out.alloc (by omega) _).grown b2 (by simp;omega) (fun k hk=>by have:=b1.out k hk;omega);have a9:(R.item x.items s).length=x.items.length+1:=by
   rw[HI.out];simp only[List.length_append,List.length_take,List.length_cons,List.length_drop];omega
  have c6:Hid (w3.ownsRow (w.heap.size+2) 9 1 v3 (R.item x.items s).length ((R.item x.items s).map S)):=by
   show w3.ownsRow _ _ _ _ _ _;rw[a9,HI.out];simpa[S,List.map_take,List.map_drop]using b6
  have b4:v3.ownBlock≠some (w.heap.size+1):=fun e=>by have:=(b6.lt _ e).1;omega
  obtain⟨a3,c3,d4,_,_,_,_⟩:=zl c6.out;have e3:=z9 d4;subst d4;clear a2 x0 x1 x2 x3 fz b2 b6 a6 a9 a1 b9 b1;go_wp2;obtain⟨z0,z1,z2,z3⟩:=qZ w3 (w.heap.size+1) (.int .i64 3) (.int .i64 0) (.string ⟨#[]⟩) (.slice a3 (R.item x.items s).length c3) _ _ _ _ y0 y1 y2 y3;have hK:zh (fun k=>k=w.heap.size+1) w3 ((((w3.setCell ⟨w.heap.size+1,0,none⟩ (.int .i64 3)).setCell ⟨w.heap.size+1,1,none⟩ (.int .i64 0)).setCell ⟨w.heap.size+1,2,none⟩ (.string ⟨#[]⟩)).setCell ⟨w.heap.size+1,3,none⟩ (.slice a3 (R.item x.items s).length c3)):=
   ((((zh.refl (fun k=>k=w.heap.size+1) w3).setCell (p:=⟨w.heap.size+1,0,none⟩) (.inl rfl) _).setCell (p:=⟨w.heap.size+1,1,none⟩) (.inl rfl) _).setCell (p:=⟨w.heap.size+1,2,none⟩) (.inl rfl) _).setCell (p:=⟨w.heap.size+1,3,none⟩) (.inl rfl) _
  have d7:Below w.heap.size w ((((w3.setCell ⟨w.heap.size+1,0,none⟩ (.int .i64 3)).setCell ⟨w.heap.size+1,1,none⟩ (.int .i64 0)).setCell ⟨w.heap.size+1,2,none⟩ (.string ⟨#[]⟩)).setCell ⟨w.heap.size+1,3,none⟩ (.slice a3 (R.item x.items s).length c3)):=
   (((d5.out.setCell (p:=⟨w.heap.size+1,0,none⟩) (Nat.le_succ _) _).setCell (p:=⟨w.heap.size+1,1,none⟩) (Nat.le_succ _) _).setCell (p:=⟨w.heap.size+1,2,none⟩) (Nat.le_succ _) _).setCell (p:=⟨w.heap.size+1,3,none⟩) (Nat.le_succ _) _
  generalize((((w3.setCell ⟨w.heap.size+1,0,none⟩ (.int .i64 3)).setCell ⟨w.heap.size+1,1,none⟩ (.int .i64 0)).setCell ⟨w.heap.size+1,2,none⟩ (.string ⟨#[]⟩)).setCell ⟨w.heap.size+1,3,none⟩ (.slice a3 (R.item x.items s).length c3))=w9 at*;have b7:=zp c6.out hK (fun g e e2=>b4 (by rw[e,e2]));exact bodyPost_ret (v:= .agg #[.int .i64 3,.int .i64 0,.string ⟨#[]⟩,.slice a3 (R.item x.items s).length c3]) (by simp[results,Tryz.results99,go_sem,z0,z1,z2,z3]) rfl ⟨a3,c3,rfl,Rd.of_owns b7 (fun b hb=>by have:=hM b hb;omega),d7⟩
 ·have a8:OkL x∧x.kind=42:=by
   rcases hk with hk|hk
   ·rw[hk]at a1;simp[R.none]at a1
   ·exact hk
  have hx:x=ZO x x.items:=by
   rcases a8.1.kind with h|h|h
   ·rw[a8.2]at h;simp at h
   ·rw[a8.2]at h;simp at h
   ·cases x;simp only[ZO]at h⊢;simp only[R.Leaf.mk.injEq];exact⟨trivial,h.1,h.2.1,h.2.2.1,trivial⟩
  have c9:pk x=3:=by unfold pk;rw[a8.2];simp
  have c8:x.n=0:=by rw[hx];rfl
  have d3:x.text=[]:=by rw[hx];rfl
  rw[XF a0 s a1,c9,c8,d3];rw[hx]at a5;rw[a1]at a7;have d6:Hid (It w M (ZO x x.items,.slice ia x.items.length ic)):=a5;clear h1 h2 h3 a0 hk a8 hx c9 c8 d3 a5 a1 b3;generalize xL x.items s=p at*;generalize x.items.length=n at*;go_enter Tryz.func99,Tryz.ntmps99;go_wp2_with fail
  refine(a7 _ (((j0g _ _).alloc (j0a _) _).alloc (by simp) _)).mono ?_;rintro e w1 ⟨rfl,b8⟩;subst b8;go_wp2;have HB:Below w.heap.size w ((w.alloc (Obj.cells #[.int .i64 3,.int .i64 0,.string ⟨#[]⟩,.slice ia n ic] 137)).alloc (Obj.cells #[.int .i64 3,.int .i64 0,.string ⟨#[]⟩,.slice ia n ic] 137)):=((j0g _ _).alloc (j0a _) _).alloc (by simp) _;exact bodyPost_ret (v:= .agg #[.int .i64 3,.int .i64 0,.string ⟨#[]⟩,.slice ia n ic]) (by simp[results,Tryz.results99,go_sem]) rfl ⟨ia,ic,rfl,Rd.below d6.out HB,HB⟩
