import Derived.Test.YtolgebdmffcemaaGreatDoorQ26
import Derived.Test.YtolgebdmffcemaaGreatDoorQ21
set_option linter.all false
set_option maxHeartbeats 20000000
set_option maxRecDepth 1000000
namespace Go.Proofs.YtolgebdmffcemaaGreatDoor
open Go.RowKit
theorem o8 (b:Nat)(name s:List UInt8)(w:World)(h0:w.cell? ⟨b,0,none⟩=some (.string ⟨name.toArray⟩)):
  Calls Tryz.prog 105 #[.pointer (some ⟨b,0,none⟩),.string ⟨s.toArray⟩] w fun e w' =>e= .returned (.int .i64 (Lib.compareBytes name s))∧w' =w:=by
 go_enter Tryz.func105,Tryz.ntmps105;go_wp2_with fail
 refine(Tryz.strings_Compare _ _ _).mono ?_;rintro e w1 ⟨rfl,rfl⟩;go_wp2;go_ret;exact⟨rfl,rfl⟩
theorem U7 (bv:Value)(L:List BrP)(t:List R.Br)(s:List UInt8)(w:World)(M:Nat→Prop)(hL:L.map (·.1)=t)(b4:w.ownsRow 0 88 1 bv L.length (xI L))(hI:∀p∈L,V5 w M p)(hl:t.length≤1000000)(a4:Zr R.Br.name t):
  Calls Tryz.prog 104 #[bv,.string ⟨s.toArray⟩,.func (.func 105) #[] #[]] w fun e w' =>e= .returned (.tuple #[.int .i64 (yW R.Br.name t s:Int),.bool (t.any fun x=>x.name==s)])∧w' =w:=by
 obtain⟨a,cap,rfl,hn,hm,b2,a7⟩:=za b4;have a9:t.length=L.length:=by rw[←hL,List.length_map]
 have HT:Hid (∀(i:Nat) (h:i<L.length) (hb:i<t.length),t[i]'hb=(L[i]'h).1):=by intro i h hb;subst hL;simp
 have a5:Hid (t.length=L.length):=a9;rw[a9]at hl;have a6:=a4.mono s;unfold maxLen at hm;have HS:Hid (∀(i j:Nat) (hi:i<t.length) (hj:j<t.length),i<j→Op.bytesLess t[i].name t[j].name=true):=(ZE _ _).1 a4;have HI:=zk hI;clear a9 hL b4 a4 hI;go_enter Tryz.func104,Tryz.ntmps104;go_wp2;go_loop [9,10] (fun i j=>∃p q:Nat,p≤q∧q≤L.length∧i= .int .i64 p∧j= .int .i64 q∧(∀k (h:k<t.length),k<p→zT s t[k].name=true)∧(∀k (h:k<t.length),q≤k→zT s t[k].name=false)) (fun i j=>(intOf j).toNat-(intOf i).toNat)
 case atStart=>exact⟨0,L.length,Nat.zero_le _,j0a _,rfl,rfl,fun k _ h=>by omega,fun k h h' =>by rw[a5.out]at h;omega⟩
 case round=>
  obtain⟨p,q,d3,hq,rfl,rfl,hA,hB⟩:=hrel;have HA:=zk hA;have HB:=zk hB;have b8:=zk a6;clear hA hB a6;by_cases c8:p<q
  ·cases a with
   |none=>have:=(b2 rfl).1;omega
   |some ad=>
   obtain⟨g,rfl,_,_,_,a0⟩:=a7 ad rfl;obtain⟨h,hh⟩:∃h:Nat,h=(p+q)/2:=⟨_,rfl⟩
   have c9:p≤h:=by omega
   have d4:h<q:=by omega
   have a3:h<L.length:=by omega
   have c7:((p:Int)+(q:Int))/2=(h:Int):=by omega
   have e0:=XS a0 h a3;have n0:=(HI.out _ (j0c a3)).c0;have HX:Hid (t[h]'(by rw[a5.out];exact a3)=(L[h]'a3).1):=HT.out h a3 _;generalize(L[h]'a3).1.name=nm at n0;generalize b3:(L[h]'a3).2.1=bb at e0 n0;obtain⟨a1,b1,b7⟩:∃a1,Hid ((L[h]'a3).1.name=a1)∧w.cell? ⟨bb,0,none⟩=some (.string ⟨a1.toArray⟩):=⟨_,(rfl:_=_),by rw[←b3];exact(HI.out _ (j0c a3)).c0⟩
   clear a0 hh b3 n0;go_wp2_with fail
   refine(o8 bb a1 s _ b7).mono ?_;rintro e w1 ⟨rfl,b6⟩;subst b6;have c6:=X7 a1 s;generalize b5:Lib.compareBytes a1 s=c at c6;by_cases b9:c<0
   ·have HC:Hid (zT s a1 =true):=by show _=_;rw[zT,←Y2,b5];simpa using b9
    clear b5;go_wp2;go_round
    case rel=>
     refine⟨h+1,q,by omega,by omega,by go_num,rfl,fun k hk h1=>b8.out k h hk (by rw[a5.out];exact a3) (by omega) (by rw[HX.out,b1.out];exact HC.out),HB.out⟩
    case measure=>simp[intOf];omega
   ·have HC:Hid (zT s a1 =false):=by show _=_;rw[zT,←Y2,b5];simpa using b9
    clear b5;go_wp2;go_round
    case rel=>
     refine⟨p,h,by omega,by omega,rfl,rfl,HA.out,fun k hk h1=> ?_⟩;rw[Bool.eq_false_iff];intro h3;have:=b8.out h k (by rw[a5.out];exact a3) hk h1 h3;rw[HX.out,b1.out,HC.out]at this;cases this
    case measure=>simp[intOf];omega
  ·obtain rfl:p=q:=by omega
   have HP:Hid (yW R.Br.name t s=p):=by
    show _=_;unfold yW;by_cases a2:p<t.length
    ·rw[List.findIdx_eq a2]
     exact⟨by simpa using HB.out p a2 (j0a _),fun j hj=>by simpa using HA.out j (by omega) hj⟩
    ·obtain rfl:p=t.length:=by rw[a5.out]at a2⊢;omega
     refine List.findIdx_eq_length.2 fun y hy=> ?_
     obtain⟨k,hk,rfl⟩:=List.getElem_of_mem hy;simpa using HA.out k hk hk
   have HN:Hid (∀k (hk:k<t.length),k<p→(t[k].name==s)=false):=by
    intro k hk a8;have:=HA.out k hk a8;rw[Bool.eq_false_iff];intro e;rw[zT,beq_iff_eq.1 e,zO]at this;cases this
   by_cases a2:p<L.length
   ·cases a with
    |none=>have:=(b2 rfl).1;omega
    |some ad=>
    obtain⟨g,rfl,_,_,_,a0⟩:=a7 ad rfl;have e0:=XS a0 p a2;have HX:Hid (t[p]'(by rw[a5.out];exact a2)=(L[p]'a2).1):=HT.out p a2 _;generalize b3:(L[p]'a2).2.1=bb at e0;obtain⟨a1,b1,b7⟩:∃a1,Hid ((L[p]'a2).1.name=a1)∧w.cell? ⟨bb,0,none⟩=some (.string ⟨a1.toArray⟩):=⟨_,(rfl:_=_),by rw[←b3];exact(HI.out _ (j0c a2)).c0⟩
    have HY:Hid ((t.any fun y=>y.name==s)=(a1 ==s)):=by
     show _=_
     cases he:(a1 ==s)
     ·rw[Bool.eq_false_iff]
      intro h;obtain⟨y,hy,b0⟩:=List.any_eq_true.1 h;obtain⟨k,hk,rfl⟩:=List.getElem_of_mem hy;rcases Nat.lt_trichotomy k p with a8|a8|a8
      ·have:=HN.out k hk a8;rw[b0]at this;cases this
      ·subst a8;rw[HX.out,b1.out,he]at b0;cases b0
      ·have h1:=HS.out p k (by rw[a5.out];exact a2) hk a8
       have h2:=HB.out p (by rw[a5.out];exact a2) (j0a _);rw[beq_iff_eq.1 b0]at h1;rw[zT,h1]at h2;cases h2
     ·exact List.any_eq_true.2 ⟨t[p]'(by rw[a5.out];exact a2),j0c _,by rw[HX.out,b1.out];exact he⟩
    clear a0 b3;go_wp2_with fail
    refine(o8 bb a1 s _ b7).mono ?_;rintro e w1 ⟨rfl,b6⟩;subst b6;have HQ:=zk (vm a1 s);generalize Lib.compareBytes a1 s=c at HQ;go_wp2;go_ret2;exact⟨QK (by rw[HP.out]) (by rw[HY.out,HQ.out]),rfl⟩
   ·have HY:Hid ((t.any fun y=>y.name==s)=false):=by
     show _=_;rw[Bool.eq_false_iff];intro h;obtain⟨y,hy,b0⟩:=List.any_eq_true.1 h;obtain⟨k,hk,rfl⟩:=List.getElem_of_mem hy;have:=HN.out k hk (by rw[a5.out]at hk;omega);rw[b0]at this;cases this
    go_wp2;go_ret2;exact⟨QK (by rw[HP.out]) HY.out,rfl⟩
theorem vX {w:World}{M O:Nat→Prop}{B:Nat}{st:R.St}{bv cv:Value}{LB:List BrP}{a0:List (R.Cm×Value×Value)}(h:PSx w M O B st bv cv LB a0)(hi:Inv st)(s:List UInt8):
  Calls Tryz.prog 67 #[.pointer (some ⟨B,0,none⟩),.string ⟨s.toArray⟩] w fun e w' =>e= .returned (.tuple #[.int .i64 (yW R.Br.name st.brs s:Int),.bool (st.brs.any fun x=>x.name==s)])∧w' =w:=by
 have hs:=U7 bv LB st.brs s w M h.brs h.row h.at_ (by have:=hi.many;omega) hi.sort;have c0:=h.c0;clear h hi;go_enter Tryz.func67,Tryz.ntmps67;go_wp2_with fail
 refine hs.mono ?_;rintro e w1 ⟨rfl,a1⟩;subst a1;go_wp2;go_ret2;exact⟨rfl,rfl⟩
def ZH (LB:List BrP)(st:R.St)(s:List UInt8):Option Addr:=if R.fnd st.brs s<st.brs.length then(LB[R.fnd st.brs s]?).map (fun p=>⟨p.2.1,0,none⟩)else none
theorem Vu {w:World}{M O:Nat→Prop}{B:Nat}{st:R.St}{bv cv:Value}{LB:List BrP}{a5:List (R.Cm×Value×Value)}(h:PSx w M O B st bv cv LB a5)(hi:Inv st)(s:List UInt8):
  Calls Tryz.prog 45 #[.pointer (some ⟨B,0,none⟩),.string ⟨s.toArray⟩] w fun e w' =>e= .returned (.pointer (ZH LB st s))∧w' =w:=by
 have hs:=vX h hi s;have c0:=h.c0;have a4:st.brs.length=LB.length:=by rw[←h.brs,List.length_map]
 obtain⟨a,cap,rfl,hn,hm,a2,a0⟩:=za h.row;unfold maxLen at hm;rw[Qd]at hs;by_cases hf:R.fnd st.brs s<st.brs.length
 ·have HA:Hid (ZH LB st s=some ⟨(LB[R.fnd st.brs s]'(by omega)).2.1,0,none⟩):=by
   show _=_;rw[ZH,if_pos hf,j0d (by omega)];rfl
  rw[decide_eq_true hf,←kD hi.sort s hf]at hs
  cases a with
  |none=>have:=(a2 rfl).1;omega
  |some ad=>
  obtain⟨g,rfl,_,_,_,a1⟩:=a0 ad rfl;have e0:=XS a1 (R.fnd st.brs s) (by omega);generalize(LB[R.fnd st.brs s]'(by omega)).2.1=bb at e0 HA;have a6:R.fnd st.brs s<LB.length:=by omega
  clear h hi a1 a0 a2 a4 hf;generalize R.fnd st.brs s=k at*;go_enter Tryz.func45,Tryz.ntmps45;go_wp2_with fail
  refine hs.mono ?_;rintro e w1 ⟨rfl,a3⟩;subst a3;go_wp2;go_ret;exact⟨by rw[HA.out];rfl,rfl⟩
 ·have HA:Hid (ZH LB st s=none):=by show _=_;rw[ZH,if_neg hf]
  rw[decide_eq_false hf]at hs;clear h hi a0 a2 a4 hf;go_enter Tryz.func45,Tryz.ntmps45;go_wp2_with fail
  refine hs.mono ?_;rintro e w1 ⟨rfl,a3⟩;subst a3;go_wp2;go_ret;exact⟨by rw[HA.out];rfl,rfl⟩
theorem jy:∀(L:List (R.Cm×Value×Value)) (i:Nat) (h:i<L.length),(YN L)[i*2+1]? =some (L[i]'h).2.2
 |p::r,0,_=>by simp[YN]
 |p::r,i+1,h=>by
  have ih:=jy r i (by simpa using h);unfold YN at ih⊢;rw[List.flatMap_cons,show(i+1)*2+1=(i*2+1)+2 from by omega];simpa using ih
theorem qQ {w:World}{M O:Nat→Prop}{B:Nat}{st:R.St}{bv cv:Value}{LB:List BrP}{a2:List (R.Cm×Value×Value)}(h:PSx w M O B st bv cv LB a2)(n:Nat)(hn:n≤st.cms.length)(_hc:st.cms.length≤60):
  Calls Tryz.prog 52 #[.pointer (some ⟨B,0,none⟩),.int .i64 (n:Int)] w fun e w' =>∃ta tc,e= .returned (.slice ta (R.treeOf st n).length tc)∧PT w M (.slice ta (R.treeOf st n).length tc) (R.treeOf st n)∧w' =w:=by
 by_cases h0:n=0
 ·subst h0
  have ht:R.treeOf st 0=[]:=by simp[R.treeOf]
  rw[ht];clear h;go_enter Tryz.func52,Tryz.ntmps52;go_wp2;go_ret;exact⟨none,0,rfl,⟨[],rfl,⟨none,0,rfl,by simp,by unfold maxLen;omega,fun h=>by simp at h⟩,by simp⟩,rfl⟩
 ·have a7:st.cms.length=a2.length:=by rw[←h.cms,List.length_map]
  have a3:n-1<a2.length:=by omega
  have hT:R.treeOf st n=(a2[n-1]'a3).1.tree:=by
   rw[R.treeOf,if_neg h0,←h.cms,List.getElem?_map,j0d a3];rfl
  have hp:=h.ctree _ (j0c a3);rw[←hT]at hp;have c1:=h.c1;obtain⟨a,cap,rfl,a8,hm,a4,a1⟩:=za h.crow
  cases a with
  |none=>have:=(a4 rfl).1;omega
  |some ad=>
  obtain⟨g,rfl,_,_,_,a0⟩:=a1 ad rfl;have e1:=a0 _ _ (jy a2 (n-1) a3);obtain⟨ta,tc,hv⟩:∃a c,(a2[n-1]'a3).2.2= .slice a (R.treeOf st n).length c:=by
   obtain⟨L,hL,⟨a,c,hv,_⟩,_⟩:=hp;exact⟨a,c,by rw[hv,←hL,List.length_map]⟩
  rw[hv]at e1 hp;unfold maxLen at hm;have HP:=zk hp;have a9:((n:Int)==0)=false:=by rw[Bool.eq_false_iff];simp;omega
  have a5:(n:Int)-1=((n-1:Nat):Int):=by omega
  clear h a0 a1 a4 hT hp hv h0;generalize R.treeOf st n=tr at*;obtain⟨m,a6⟩:∃m,m=n-1:=⟨_,rfl⟩
  rw[←a6]at e1 a3 a5;clear a6;go_enter Tryz.func52,Tryz.ntmps52;go_wp2;go_ret;exact⟨ta,tc,rfl,HP.out,rfl⟩
theorem yY (w:World)(n:Nat)(hn:w.heap.size=n)(C:Array Value)(t:TypeId)(hC:C.size≤1000):Rd (w.alloc (.cells C t)) (fun _=>False) (.slice (some ⟨n,0,none⟩) C.size C.size) C.size C.toList:=by
 subst hn;exact Uc w C t hC
theorem zj.then {O O1:Nat→Prop}{w w1 w2:World}(h:zj O w w1)(hO:∀b,O1 b→O b∨w.heap.size≤b)(h2:zj O1 w1 w2):zj O w w2:=
 ⟨h2.os.trans h.os,h2.tape.trans h.tape,h2.output.trans h.output,j0f h.size h2.size,fun k hk hn=>by
  rw[h2.block k (j0b hk h.size) (fun e=>by rcases hO k e with e|e;exact hn e;omega)];exact h.block k hk hn⟩
def XU (st:R.St)(name:List UInt8)(head:Nat):R.St:=
 if R.fnd st.brs name<st.brs.length then {st with brs:=st.brs.set (R.fnd st.brs name) {name:=name,head:=head,work:=R.treeOf st head},packed:=st.packed++R.record 66 (UInt8.ofNat head::name)}
 else R.headNew st {name:=name,head:=head,work:=R.treeOf st head}
theorem V9 {w:World}{M:Nat→Prop}{p:BrP}(a0:V5 w M p)(name:List UInt8)(hn:p.1.name=name)(head:Nat){tv:Value}{t:List R.Leaf}(a1:PT ((w.setCell ⟨p.2.1,1,none⟩ (.int .i64 (head:Int))).setCell ⟨p.2.1,2,none⟩ tv) M tv t):
  V5 ((w.setCell ⟨p.2.1,1,none⟩ (.int .i64 (head:Int))).setCell ⟨p.2.1,2,none⟩ tv) M ({name:=name,head:=head,work:=t},p.2.1,tv):=by
 subst hn;refine⟨?_,?_,?_,fun o=> ?_,a1⟩
 ·rw[z9 _ _ _ _ _ (by omega),z9 _ _ _ _ _ (by omega)];exact a0.c0
 ·rw[z9 _ _ _ _ _ (by omega)];exact zD _ _ _ _ _ a0.c1
 ·exact zD _ _ _ _ p.2.2 (by rw[z9 _ _ _ _ _ (by omega)];exact a0.c2)
 ·rw[World.frozen?_setCell,World.frozen?_setCell];exact a0.fr o
theorem ga (w:World)(bb:Nat)(u tv:Value):zj (fun b=>b=bb) w ((w.setCell ⟨bb,1,none⟩ u).setCell ⟨bb,2,none⟩ tv):=
 ((zj.refl (fun b=>b=bb) w).setCell (p:=⟨bb,1,none⟩) (.inl rfl) u).setCell (p:=⟨bb,2,none⟩) (.inl rfl) tv
theorem gn (l:List R.Br)(name:List UInt8)(h:Nat)(t:List R.Leaf):R.insB l {name:=name,head:=h,work:=t}=(R.insB l {name:=name,head:=0,work:=[]}).set (R.pos l name) {name:=name,head:=h,work:=t}:=by
 have a0:R.pos l name≤l.length:=List.findIdx_le_length;unfold R.insB;simp only;rw[List.set_append_right _ _ (by simp;omega)];simp[Nat.min_eq_left a0]
theorem Gp (B:Nat)(st:R.St)(name:List UInt8)(head:Nat)(w:World)(M O:Nat→Prop)(h:PS w M O B st)(hi:Inv st)(hh:head≤st.cms.length)(j5:name.length≤1000)(h1:st.packed.length≤1000000000000):
  Calls Tryz.prog 48 #[.pointer (some ⟨B,0,none⟩),.string ⟨name.toArray⟩,.int .i64 (head:Int)] w fun e w' =>e= .returned (.tuple #[])∧zR w w' M O B (XU st name head):=by
 obtain⟨bv,cv,LB,g4,hP⟩:=h;have b9:=vX hP hi name;rw[Qd]at b9;have d7:st.brs.length=LB.length:=by rw[←hP.brs,List.length_map]
 obtain⟨a,cap,d3,hn,hm,b8,a5⟩:=za hP.row;have c0:=hP.c0;rw[d3]at c0;unfold maxLen at hm;have g5:=hP.lt B hP.own;have d4:=hi.few;by_cases hf:R.fnd st.brs name<st.brs.length
 ·have HR:Hid (XU st name head={st with brs:=st.brs.set (R.fnd st.brs name) {name:=name,head:=head,work:=R.treeOf st head},packed:=st.packed++R.record 66 (UInt8.ofNat head::name)}):=by show _=_;rw[XU,if_pos hf]
  rw[decide_eq_true hf,←kD hi.sort name hf]at b9;have hl:R.fnd st.brs name<LB.length:=by omega
  have f8:(LB[R.fnd st.brs name]'hl).1.name=name:=by
   have:(LB[R.fnd st.brs name]'hl).1=(st.brs[R.fnd st.brs name]'hf):=by simp only[←hP.brs,List.getElem_map]
   rw[this];exact R.fnd_name _ _ hf
  have c6:=qQ hP head hh d4;have a7:=hP.at_ _ (j0c hl);have hO:=(hP.blk _ (j0c hl)).1;have j3:=hP.lt _ hO;have k1:=a7.c1;have k2:=a7.c2;have f1:=a7.fr 1;have f2:=a7.fr 2;have HP:=zk hP;have j1:=zk f8;have HH:=zk a7
  cases a with
  |none=>have:=(b8 rfl).1;omega
  |some ad=>
  obtain⟨g,rfl,_,j4,_,b1⟩:=a5 ad rfl;have e0:=XS b1 (R.fnd st.brs name) hl;have HS:Hid (∀(tv:Value) (t:List R.Leaf),PT w M tv t→PSx ((w.setCell ⟨(LB[R.fnd st.brs name]'hl).2.1,1,none⟩ (.int .i64 (head:Int))).setCell ⟨(LB[R.fnd st.brs name]'hl).2.1,2,none⟩ tv) M O B {st with brs:=st.brs.set (R.fnd st.brs name) {name:=name,head:=head,work:=t}} bv cv (LB.set (R.fnd st.brs name) ({name:=name,head:=head,work:=t},(LB[R.fnd st.brs name]'hl).2.1,tv)) g4∧zj O w ((w.setCell ⟨(LB[R.fnd st.brs name]'hl).2.1,1,none⟩ (.int .i64 (head:Int))).setCell ⟨(LB[R.fnd st.brs name]'hl).2.1,2,none⟩ tv)):=by
   intro tv t a9;have hK:=ga w (LB[R.fnd st.brs name]'hl).2.1 (.int .i64 (head:Int)) tv;exact Q6 hP hl (j0g _ _) hK (V9 a7 name f8 head (a9.step hK (fun b e=>by subst e;exact hP.sub _ hO) (fun b e=> .inl e)))
  generalize(LB[R.fnd st.brs name]'hl).2.1=bb at*;generalize(LB[R.fnd st.brs name]'hl).2.2=t0 at*;clear hP hi b1 a5 b8 d7 hf f8 a7;generalize R.fnd st.brs name=k at*;go_enter Tryz.func48,Tryz.ntmps48;go_wp2_with fail
  refine b9.mono ?_;rintro e w1 ⟨rfl,g1⟩;subst g1;go_wp2_with fail
  refine c6.mono ?_;rintro e w2 ⟨ta,tc,rfl,a9,i8⟩;subst i8;obtain⟨e1,d6⟩:=HS.out _ _ a9;have e8:=zk e1;have e5:=zk d6;clear c6 b9 a9 e1 d6;go_wp2_with fail
  have c7:=Yi (.slice (some ⟨w2.heap.size,0,none⟩) 1 1) [(head:Int)] (((w2.setCell ⟨bb,1,none⟩ (.int .i64 (head:Int))).setCell ⟨bb,2,none⟩ (.slice ta (R.treeOf st head).length tc)).alloc (.cells #[.int .i64 (head:Int)] 3)) (fun _=>False) (yY _ _ (by simp) #[.int .i64 (head:Int)] 3 (by simp)) (by simp);refine c7.mono ?_;rintro e w7 ⟨rfl,c8⟩;clear c7;generalize f3:((w2.setCell ⟨bb,1,none⟩ (.int .i64 (head:Int))).setCell ⟨bb,2,none⟩ (.slice ta (R.treeOf st head).length tc))=w6 at*;have a1:Below w6.heap.size w6 w7:=((j0g _ _).alloc (j0a _) _).trans (c8.mono (by simp));have b6:Below w6.heap.size w6 (w7.alloc (.cells #[.string ⟨([(head:Int)].map byteOf).toArray⟩,.string ⟨name.toArray⟩] 9)):=a1.alloc a1.size _;have e3:=J3 B 66 66 (by decide) (.slice (some ⟨w7.heap.size,0,none⟩) 2 2) [[(head:Int)].map byteOf,name] (e8.out.below b6) (fun _=>False) (yY w7 _ rfl #[.string ⟨([(head:Int)].map byteOf).toArray⟩,.string ⟨name.toArray⟩] 9 (by simp)) (by simp) (by
   intro i hi;simp only[List.mem_cons,List.not_mem_nil,or_false]at hi;rcases hi with rfl|rfl
   ·simp
   ·omega) h1
  have e4:=zk b6;have e7:Hid ([[(head:Int)].map byteOf,name].flatten=UInt8.ofNat head::name):=by
   show _=_;simp[yP]
  clear c8 a1 b6 f3;simp only[List.map_cons,List.map_nil]at*;go_wp2_with fail
  refine e3.mono ?_;rintro e w9 ⟨rfl,e2⟩;have e9:=zk e2;clear e2 e3;go_wp2;go_end0
  refine⟨rfl,?_⟩;have h9:=e9.out;rw[e7.out]at h9;rw[HR.out];obtain⟨O2,i6,i1,i5⟩:=h9;exact⟨O2,i6,(e5.out.trans ((zj.of_below e4.out).trans i1)),fun b e=>by
   rcases i5 b e with e|e
   ·exact .inl e
   ·exact .inr (j0f e5.out.size (j0f e4.out.size e))⟩
 ·have HR:Hid (XU st name head={st with brs:=(R.insB st.brs {name:=name,head:=0,work:=[]}).set (R.pos st.brs name) {name:=name,head:=head,work:=R.treeOf st head},packed:=st.packed++R.record 66 (UInt8.ofNat head::name)}):=by
   show _=_;rw[XU,if_neg hf,R.headNew,gn]
  rw[decide_eq_false hf]at b9;have j2:LB.length≤6:=by have:=hi.many;omega
  have h7:=hP.fr 0;have HP:=zk hP;clear hP hi hf a5 b8 d7;go_enter Tryz.func48,Tryz.ntmps48;go_wp2_with fail
  refine b9.mono ?_;rintro e w2 ⟨rfl,g1⟩;subst g1;clear b9;have h3:=HP.out.row;have f4:∀g,bv.ownBlock=some g→g<w2.heap.size∧g≠B:=fun g e=>⟨HP.out.lt g (HP.out.rowO g e).1,(HP.out.rowO g e).2⟩
  have h2:yW R.Br.name st.brs name≤LB.length:=by
   have:=G6 R.Br.name st.brs name;have e:st.brs.length=LB.length:=by rw[←HP.out.brs,List.length_map]
   omega
  have b5:=OB insB bv LB.length (yW R.Br.name st.brs name) (w2.heap.size+1) 0 (xI LB) #[.pointer (some ⟨w2.heap.size,0,none⟩)] ((w2.alloc (Obj.cells #[.string ⟨name.toArray⟩,.int .i64 0,.slice none 0 0] 95)).alloc (Obj.cells #[.pointer (some ⟨w2.heap.size,0,none⟩)] 88)) ((h3.alloc _).alloc _) (Nat.zero_le _) h2 (by omega) (by simpa using heap_alloc_new (w2.alloc (Obj.cells #[.string ⟨name.toArray⟩,.int .i64 0,.slice none 0 0] 95)) (Obj.cells #[.pointer (some ⟨w2.heap.size,0,none⟩)] 88)) rfl (fun e=>by have:=(f4 _ e).1;omega) (by
    intro u hu;obtain⟨q,_,rfl⟩:=List.mem_map.1 hu;rfl) (by intro u hu;simp at hu;subst hu;rfl)
  have e6:=zk f4;have j0:=zk d3;rw[d3]at b5;clear h3 f4;go_wp2_with fail
  refine b5.mono ?_;rintro e w3 ⟨v3,rfl,h0,b2,f5⟩;rw[←d3]at b2 f5;have j6:w2.heap.size+2≤w3.heap.size:=by have:=b2.size;simpa using this
  have f6:bv.ownBlock≠some B:=fun e=>(e6.out _ e).2 rfl
  have a8:∀k,k<w2.heap.size→bv.ownBlock≠some k→w3.heap[k]? =w2.heap[k]? :=fun k hk f7=>by
   rw[b2.block k (by simp;omega) (fun e=>f7 e.symm),heap_alloc_old _ _ (by simp;omega),heap_alloc_old _ _ hk]
  have d0:w3.cell? ⟨B,0,none⟩=some (.slice a LB.length cap):=(World.cell?_of_block (a:=⟨B,0,none⟩) (a8 B g5 f6)).trans c0;have g0:w3.frozen? ⟨B,0,none⟩=false:=(World.frozen?_of_block (a:=⟨B,0,none⟩) (a8 B g5 f6)).trans h7;have c9:w3.heap[w2.heap.size]? =some (.cells #[.string ⟨name.toArray⟩,.int .i64 0,.slice none 0 0] 95 (0,0)):=by
   rw[b2.block _ (by simp;omega) (fun e=>by have:=(e6.out _ e.symm).1;omega),heap_alloc_old _ _ (by simp)];exact heap_alloc_new w2 _
  have HK:Hid (zj (fun b=>bv.ownBlock=some b) w2 w3):=⟨b2.os,b2.tape,b2.output,by omega,fun k hk f7=>a8 k hk f7⟩
  have a4:∀W (M0:Nat→Prop),PT W M0 (.slice none 0 0) []:=fun W M0=>⟨[],rfl,⟨none,0,rfl,by simp,by unfold maxLen;omega,fun h=>by simp at h⟩,by simp⟩
  have a7:V5 w3 (fun _=>False) ({name:=name,head:=0,work:=[]},w2.heap.size,.slice none 0 0):=
   ⟨by simp only[World.cell?,c9];rfl,by simp only[World.cell?,c9];rfl,by simp only[World.cell?,c9];rfl,fun o=>by simp[World.frozen?,c9],a4 _ _⟩
  have f0:∀g,v3.ownBlock=some g→bv.ownBlock=some g∨w2.heap.size+2≤g:=fun g e=>by
   rcases f5 g e with h|h
   ·exact .inl h
   ·exact .inr (by simpa using h)
  have f9:R.pos st.brs name=yW R.Br.name st.brs name:=rfl;obtain⟨O1,b0,g6,g7⟩:=gp (st' :={st with brs:=R.insB st.brs {name:=name,head:=0,work:=[]}}) HP.out HK.out ({name:=name,head:=0,work:=[]},w2.heap.size,.slice none 0 0) (by simpa[f9]using h0) (fun g e=>by
   rcases f0 g e with h|h
   ·exact .inl h
   ·exact .inr (by omega)) ⟨j0a _,by show w2.heap.size<_;omega,⟨a4 _ _,a7⟩,fun e=>by
   rcases f0 _ e with h|h
   ·have:=HP.out.lt _ (HP.out.rowO _ h).1
    simp only at this;omega
   ·simp only at h;omega⟩ rfl rfl rfl
  have d9:R.pos st.brs name≤LB.length:=h2;simp only at b0;have d8:(LB.take (R.pos st.brs name)++(({name:=name,head:=0,work:=[]},w2.heap.size,.slice none 0 0):BrP)::LB.drop (R.pos st.brs name))[R.pos st.brs name]? =some ({name:=name,head:=0,work:=[]},w2.heap.size,.slice none 0 0):=by
   rw[List.getElem?_append_right (by simp;omega)];simp[Nat.min_eq_left d9]
  obtain⟨d5,b7⟩:=List.getElem?_eq_some_iff.1 d8;have c6:=qQ b0 head hh d4;have g8:R.treeOf {st with brs:=R.insB st.brs {name:=name,head:=0,work:=[]}} head=R.treeOf st head:=rfl;rw[g8]at c6;clear g8;have a0:=b0.at_ _ (j0c d5);have hO:=(b0.blk _ (j0c d5)).1;have b4:=b0.row;have HS:Hid (∀(tv:Value) (t:List R.Leaf),PT (w3.setCell ⟨B,0,none⟩ v3) (fun b=>M b∨O1 b) tv t→PSx (((w3.setCell ⟨B,0,none⟩ v3).setCell ⟨w2.heap.size,1,none⟩ (.int .i64 (head:Int))).setCell ⟨w2.heap.size,2,none⟩ tv) (fun b=>M b∨O1 b) O1 B {st with brs:=(R.insB st.brs {name:=name,head:=0,work:=[]}).set (R.pos st.brs name) {name:=name,head:=head,work:=t}} v3 cv ((LB.take (R.pos st.brs name)++(({name:=name,head:=0,work:=[]},w2.heap.size,.slice none 0 0):BrP)::LB.drop (R.pos st.brs name)).set (R.pos st.brs name) ({name:=name,head:=head,work:=t},w2.heap.size,tv)) g4∧zj O1 (w3.setCell ⟨B,0,none⟩ v3) (((w3.setCell ⟨B,0,none⟩ v3).setCell ⟨w2.heap.size,1,none⟩ (.int .i64 (head:Int))).setCell ⟨w2.heap.size,2,none⟩ tv)):=by
   intro tv t a9;have hK:=ga (w3.setCell ⟨B,0,none⟩ v3) w2.heap.size (.int .i64 (head:Int)) tv;rw[b7]at a0 hO;have:=Q6 (nb:={name:=name,head:=head,work:=t}) (tv:=tv) b0 d5 (j0g _ _) (by rw[b7];exact hK) (by rw[b7];exact V9 a0 name rfl head (a9.step hK (fun b e=>by subst e;exact b0.sub _ hO) (fun b e=> .inl e)));rw[b7]at this;exact this
  rw[b7]at a0;have k1:=a0.c1;have k2:=a0.c2;have f1:=a0.fr 1;have f2:=a0.fr 2;have h5:=zk g6;have g2:=zk g7;obtain⟨a3,c3,h4,i3,i2,b3,a6⟩:=za b4;have g9:(LB.take (R.pos st.brs name)++(({name:=name,head:=0,work:=[]},w2.heap.size,.slice none 0 0):BrP)::LB.drop (R.pos st.brs name)).length=LB.length+1:=by
   simp only[List.length_append,List.length_take,List.length_cons,List.length_drop];omega
  cases a3 with
  |none=>have:=(b3 rfl).1;omega
  |some ad=>
  obtain⟨g3,rfl,_,i0,_,a2⟩:=a6 ad rfl;have e0:=XS a2 _ d5;rw[b7]at e0;rw[g9]at h4;unfold maxLen at i2;have i4 :LB.length+1≤c3:=by omega
  subst h4;have h8:B<w3.heap.size:=by omega
  have i7:((yW R.Br.name st.brs name:Nat):Int)<((LB.length:Nat):Int)+1:=by omega
  clear b2 f5 h0 b5 a8 c9 f6 e6 d3 b0 g6 g7 a7 a0 hO b4 d8 a2 a6 b3 f0 i3 b7 g9 d5 a4 d9;simp only[f9]at*;clear f9;generalize yW R.Br.name st.brs name=p at*;go_wp2_with fail
  refine c6.mono ?_;rintro e w5 ⟨ta,tc,rfl,a9,i9⟩;obtain⟨e1,d6⟩:=HS.out _ _ a9;have e8:=zk e1;have e5:=zk d6;clear c6 a9 e1 d6 HS;subst i9;go_wp2_with fail
  have c7:=Yi (.slice (some ⟨w3.heap.size,0,none⟩) 1 1) [(head:Int)] ((((w3.setCell ⟨B,0,none⟩ (.slice (some ⟨g3,0,none⟩) (LB.length+1) c3)).setCell ⟨w2.heap.size,1,none⟩ (.int .i64 (head:Int))).setCell ⟨w2.heap.size,2,none⟩ (.slice ta (R.treeOf st head).length tc)).alloc (.cells #[.int .i64 (head:Int)] 3)) (fun _=>False) (yY _ _ (by simp) #[.int .i64 (head:Int)] 3 (by simp)) (by simp);refine c7.mono ?_;rintro e w7 ⟨rfl,c8⟩;clear c7;generalize f3:(((w3.setCell ⟨B,0,none⟩ (.slice (some ⟨g3,0,none⟩) (LB.length+1) c3)).setCell ⟨w2.heap.size,1,none⟩ (.int .i64 (head:Int))).setCell ⟨w2.heap.size,2,none⟩ (.slice ta (R.treeOf st head).length tc))=w6 at*;have a1:Below w6.heap.size w6 w7:=((j0g _ _).alloc (j0a _) _).trans (c8.mono (by simp));have b6:Below w6.heap.size w6 (w7.alloc (.cells #[.string ⟨([(head:Int)].map byteOf).toArray⟩,.string ⟨name.toArray⟩] 9)):=a1.alloc a1.size _;have e3:=J3 B 66 66 (by decide) (.slice (some ⟨w7.heap.size,0,none⟩) 2 2) [[(head:Int)].map byteOf,name] (e8.out.below b6) (fun _=>False) (yY w7 _ rfl #[.string ⟨([(head:Int)].map byteOf).toArray⟩,.string ⟨name.toArray⟩] 9 (by simp)) (by simp) (by
   intro i hi;simp only[List.mem_cons,List.not_mem_nil,or_false]at hi;rcases hi with rfl|rfl
   ·simp
   ·omega) h1
  have e4:=zk b6;have e7:Hid ([[(head:Int)].map byteOf,name].flatten=UInt8.ofNat head::name):=by
   show _=_;simp[yP]
  clear c8 a1 b6 f3;simp only[List.map_cons,List.map_nil]at*;go_wp2_with fail
  refine e3.mono ?_;rintro e w9 ⟨rfl,e2⟩;have e9:=zk e2;clear e2 e3;go_wp2;go_end0
  refine⟨rfl,?_⟩;have h9:=e9.out;rw[e7.out]at h9;rw[HR.out];exact zR.trans ((h5.out.then g2.out e5.out).trans (zj.of_below e4.out)) g2.out h9
def grown (st:R.St)(name:List UInt8)(head:Nat):Int×R.St:=
 if 0≤R.fndI st.brs name then(9,st)else if 6≤st.brs.length then(4,st)else(0,R.headNew st {name:=name,head:=head,work:=R.treeOf st head})
theorem yU {w:World}{M O:Nat→Prop}{B:Nat}{st:R.St}{bv cv:Value}{LB:List BrP}{a0:List (R.Cm×Value×Value)}(h:PSx w M O B st bv cv LB a0)(s:List UInt8)(hf:R.fnd st.brs s<st.brs.length):
  ∃hl:R.fnd st.brs s<LB.length,ZH LB st s=some ⟨(LB[R.fnd st.brs s]'hl).2.1,0,none⟩∧(LB[R.fnd st.brs s]'hl).1=(st.brs[R.fnd st.brs s]'hf)∧R.headOf st s=(LB[R.fnd st.brs s]'hl).1.head∧R.workOf st s=(LB[R.fnd st.brs s]'hl).1.work:=by
 have hl:R.fnd st.brs s<LB.length:=by rw[←h.brs,List.length_map]at hf;rw[←h.brs];exact hf
 have he:(LB[R.fnd st.brs s]'hl).1=(st.brs[R.fnd st.brs s]'hf):=by simp only[←h.brs,List.getElem_map]
 refine⟨hl,?_,he,?_,?_⟩
 ·rw[ZH,if_pos hf,j0d hl];rfl
 ·rw[R.headOf,j0d hf,he];rfl
 ·rw[R.workOf,j0d hf,he];rfl
theorem gx (B:Nat)(st:R.St)(name:List UInt8)(head:Nat)(w:World)(M O:Nat→Prop)(h:PS w M O B st)(hi:Inv st)(hh:head≤st.cms.length)(b1:name.length≤1000)(b2:st.packed.length≤1000000000000):
  Calls Tryz.prog 54 #[.pointer (some ⟨B,0,none⟩),.string ⟨name.toArray⟩,.int .i64 (head:Int)] w fun e w' =>e= .returned (.int .i64 (grown st name head).1)∧zR w w' M O B (grown st name head).2:=by
 have a1:=h;have a9:=Gp B st name head w M O h hi hh b1 b2;obtain⟨bv,cv,LB,b4,hP⟩:=h;have a2:=Vu hP hi name;by_cases hf:R.fnd st.brs name<st.brs.length
 ·have HR:Hid (grown st name head=(9,st)):=by show _=_;rw[grown,if_pos (by rw[R.fndI,if_pos hf];omega)]
  obtain⟨hl,ha,hx⟩:=yU hP name hf;clear hx;rw[ha]at a2;generalize(LB[R.fnd st.brs name]'hl).2.1=bb at*;have a7:=zk a1;clear hP hi hf a1 a9 ha;go_enter Tryz.func54,Tryz.ntmps54;go_wp2_with fail
  refine a2.mono ?_;rintro e w1 ⟨rfl,a5⟩;subst a5;go_wp2;go_ret;exact⟨zq (by rw[HR.out]),by rw[HR.out];exact zR.same a7.out (j0g _ _)⟩
 have a6:¬0≤R.fndI st.brs name:=by rw[R.fndI,if_neg hf];omega
 have ha:ZH LB st name=none:=by rw[ZH,if_neg hf]
 rw[ha]at a2;have a3:st.brs.length=LB.length:=by rw[←hP.brs,List.length_map]
 obtain⟨a,cap,a8,hn,hm,a4,a0⟩:=za hP.row;have c0:=hP.c0;rw[a8]at c0;unfold maxLen at hm;by_cases h6:6≤st.brs.length
 ·have HR:Hid (grown st name head=(4,st)):=by show _=_;rw[grown,if_neg a6,if_pos h6]
  have a7:=zk a1;have b0 :6≤LB.length:=by omega
  clear hP hi hf a1 a0 a4 a3 h6 a6 a9 ha a8;go_enter Tryz.func54,Tryz.ntmps54;go_wp2_with fail
  refine a2.mono ?_;rintro e w1 ⟨rfl,a5⟩;subst a5;go_wp2;go_ret;exact⟨zq (by rw[HR.out]),by rw[HR.out];exact zR.same a7.out (j0g _ _)⟩
 have HR:Hid (grown st name head=(0,XU st name head)):=by show _=_;rw[grown,if_neg a6,if_neg h6,XU,if_neg hf]
 have b0 :¬6≤LB.length:=by omega
 clear hP hi hf a1 a0 a4 a3 h6 a6 ha a8;go_enter Tryz.func54,Tryz.ntmps54;go_wp2_with fail
 refine a2.mono ?_;rintro e w1 ⟨rfl,a5⟩;subst a5;go_wp2_with fail
 refine a9.mono ?_;rintro e w2 ⟨rfl,b3⟩;go_wp2;go_ret;exact⟨zq (by rw[HR.out]),by rw[HR.out];exact b3⟩
theorem JQ (st:R.St)(name fr:List UInt8):R.made st name fr false=if R.isName name=false then(1,st)else grown st name 0:=by
 unfold R.made grown;simp
theorem oV (st:R.St)(name fr:List UInt8):R.made st name fr true=if R.isName name=false then(1,st)else if R.fndI st.brs fr<0 then(5,st)else grown st name (R.headOf st fr):=by
 unfold R.made grown;simp
theorem jq (s:List UInt8)(w:World)(hs:s.length≤maxLen):
  Calls Tryz.prog 53 #[.string ⟨s.toArray⟩] w fun e w' =>e= .returned (.bool (R.isName s))∧w' =w:=by
 have h:=uh ⟨s.toArray⟩ w (by simpa[ByteArray.size]using hs);simpa using h
theorem gC (B:Nat)(st:R.St)(name:List UInt8)(w:World)(M O:Nat→Prop)(h:PS w M O B st)(hi:Inv st)(a3:name.length≤maxLen)(a4:st.packed.length≤1000000000000):
  Calls Tryz.prog 26 #[.pointer (some ⟨B,0,none⟩),.string ⟨name.toArray⟩] w fun e w' =>e= .returned (.int .i64 (R.made st name [] false).1)∧zR w w' M O B (R.made st name [] false).2:=by
 have hn:=jq name w a3;have hg:=fun a2=>gx B st name 0 w M O h hi (Nat.zero_le _) a2 a4
 rw[JQ]
 cases hb:R.isName name
 ·rw[hb]at hn
  simp only[if_true];have a1:=zk h;clear h hi hb hg;go_enter Tryz.func26,Tryz.ntmps26;go_wp2_with fail
  refine hn.mono ?_;rintro e w1 ⟨rfl,a0⟩;subst a0;go_wp2;go_ret;exact⟨rfl,zR.same a1.out (j0g _ _)⟩
 ·replace hg:=hg (by have:=ZA name hb;omega)
  rw[hb]at hn;simp only[Bool.true_eq_false,if_false];clear h hi hb;go_enter Tryz.func26,Tryz.ntmps26;go_wp2_with fail
  refine hn.mono ?_;rintro e w1 ⟨rfl,a0⟩;subst a0;go_wp2_with fail
  refine hg.mono ?_;rintro e w2 ⟨rfl,a5⟩;go_wp2;go_ret;exact⟨rfl,a5⟩
theorem fC (B:Nat)(st:R.St)(name fr:List UInt8)(w:World)(M O:Nat→Prop)(h:PS w M O B st)(hi:Inv st)(a6:name.length≤maxLen)(a7:st.packed.length≤1000000000000):
  Calls Tryz.prog 29 #[.pointer (some ⟨B,0,none⟩),.string ⟨name.toArray⟩,.string ⟨fr.toArray⟩] w fun e w' =>e= .returned (.int .i64 (R.made st name fr true).1)∧zR w w' M O B (R.made st name fr true).2:=by
 have hn:=jq name w a6;have a1:=h;obtain⟨bv,cv,LB,a9,hP⟩:=h;have a2:=Vu hP hi fr;rw[oV]
 cases hb:R.isName name
 ·rw[hb]at hn
  simp only[if_true];have a4:=zk a1;clear a1 hi hb hP a2;go_enter Tryz.func29,Tryz.ntmps29;go_wp2_with fail
  refine hn.mono ?_;rintro e w1 ⟨rfl,a0⟩;subst a0;go_wp2;go_ret;exact⟨rfl,zR.same a4.out (j0g _ _)⟩
 rw[hb]at hn;simp only[Bool.true_eq_false,if_false];by_cases hf:R.fnd st.brs fr<st.brs.length
 ·have a3:¬R.fndI st.brs fr<0:=by rw[R.fndI,if_pos hf];omega
  rw[if_neg a3];obtain⟨hl,ha,he,hh,_⟩:=yU hP fr hf;have a5:R.headOf st fr≤st.cms.length:=by rw[hh,he];exact hi.heads _ (j0c hf)
  have hg:=gx B st name (R.headOf st fr) w M O a1 hi a5 (by have:=ZA name hb;omega) a7;have e1:=(hP.at_ _ (j0c hl)).c1;rw[ha]at a2;rw[←hh]at e1;generalize(LB[R.fnd st.brs fr]'hl).2.1=bb at*;clear a1 hi hb hP a3 hf he ha hh a5;generalize R.headOf st fr=hd at*;go_enter Tryz.func29,Tryz.ntmps29;go_wp2_with fail
  refine hn.mono ?_;rintro e w1 ⟨rfl,a0⟩;subst a0;go_wp2_with fail
  refine a2.mono ?_;rintro e w1 ⟨rfl,a0⟩;subst a0;go_wp2_with fail
  refine hg.mono ?_;rintro e w2 ⟨rfl,a8⟩;go_wp2;go_ret;exact⟨rfl,a8⟩
 ·have a3:R.fndI st.brs fr<0:=by rw[R.fndI,if_neg hf];omega
  rw[if_pos a3];have ha:ZH LB st fr=none:=by rw[ZH,if_neg hf]
  rw[ha]at a2;have a4:=zk a1;clear a1 hi hb hP a3 hf ha;go_enter Tryz.func29,Tryz.ntmps29;go_wp2_with fail
  refine hn.mono ?_;rintro e w1 ⟨rfl,a0⟩;subst a0;go_wp2_with fail
  refine a2.mono ?_;rintro e w1 ⟨rfl,a0⟩;subst a0;go_wp2;go_ret;exact⟨rfl,zR.same a4.out (j0g _ _)⟩
theorem fD (B:Nat)(st:R.St)(name:List UInt8)(w:World)(M O:Nat→Prop)(h:PS w M O B st)(hi:Inv st)(d8:st.packed.length≤1000000000000):
  Calls Tryz.prog 37 #[.pointer (some ⟨B,0,none⟩),.string ⟨name.toArray⟩] w fun e w' =>e= .returned (.int .i64 (R.dropped st name).1)∧zR w w' M O B (R.dropped st name).2:=by
 have a7:=h;obtain⟨bv,cv,LB,e2,hP⟩:=h;have a4:=vX hP hi name;rw[Qd]at a4;by_cases hf:R.fnd st.brs name<st.brs.length
 ·have a2:¬R.fndI st.brs name<0:=by rw[R.fndI,if_pos hf];omega
  have HR:Hid (R.dropped st name=(0,{st with brs:=st.brs.take (R.fnd st.brs name)++st.brs.drop (R.fnd st.brs name+1),packed:=st.packed++R.record 68 name})):=by show _=_;rw[R.dropped,if_neg a2]
  rw[decide_eq_true hf,←kD hi.sort name hf]at a4;have b0:st.brs.length=LB.length:=by rw[←hP.brs,List.length_map]
  have b7:R.fnd st.brs name<LB.length:=by omega
  obtain⟨a,cap,a6,hn,hm,b1,a5⟩:=za hP.row;have c0:=hP.c0;have d5:=hP.fr 0;have d6:=hP.lt B hP.own;have hD:=OD Fk bv LB.length (R.fnd st.brs name) 0 (xI LB) w hP.row b7 (by
   intro u hu;obtain⟨q,_,rfl⟩:=List.mem_map.1 hu;rfl)
  have HP:=zk hP;have e1:=zk a6;rw[a6]at hD c0;unfold maxLen at hm;have e3:LB.length≤6:=by have:=hi.many;omega
  have e4:name.length≤8:=by
   have h1:=hi.names _ (j0c hf);rw[R.fnd_name _ _ hf]at h1;exact ZA _ h1
  clear a7 hi hP a2 hf a5 b1 b0;generalize R.fnd st.brs name=k at*;go_enter Tryz.func37,Tryz.ntmps37;go_wp2_with fail
  refine a4.mono ?_;rintro e w1 ⟨rfl,b3⟩;subst b3;go_wp2_with fail
  refine hD.mono ?_;rintro e w3 ⟨v3,rfl,b2,a0,a9⟩;rw[←a6]at a0 a9;have b8:bv.ownBlock≠some B:=fun e=>(HP.out.rowO _ e).2 rfl
  have a1:w3.heap[B]? =w1.heap[B]? :=a0.block B d6 (fun e=>b8 e.symm);have d0:=(World.cell?_of_block (a:=⟨B,0,none⟩) a1).trans c0;have g0:=(World.frozen?_of_block (a:=⟨B,0,none⟩) a1).trans d5;have HK:Hid (zj (fun b=>bv.ownBlock=some b) w1 w3):=⟨a0.os,a0.tape,a0.output,a0.size,fun k hk d7=>a0.block k hk (fun e=>d7 e.symm)⟩
  obtain⟨O1,b6,b4,b5⟩:=gK (st' :={st with brs:=st.brs.take k++st.brs.drop (k+1)}) HP.out HK.out b7 (by simpa using b2) a9 rfl rfl rfl;obtain⟨a3,c3,d9,_⟩:=za b2;subst d9;have a8:Below (w3.setCell ⟨B,0,none⟩ (.slice a3 (LB.length-1) c3)).heap.size (w3.setCell ⟨B,0,none⟩ (.slice a3 (LB.length-1) c3)) ((w3.setCell ⟨B,0,none⟩ (.slice a3 (LB.length-1) c3)).alloc (.cells #[.string ⟨name.toArray⟩] 9)):=(j0g _ _).alloc (j0a _) _;have c6:=J3 B 68 68 (by decide) (.slice (some ⟨w3.heap.size,0,none⟩) 1 1) [name] (b6.below a8) (fun _=>False) (yY _ _ (by simp) #[.string ⟨name.toArray⟩] 9 (by simp)) (by simp) (by
   intro i hi;simp only[List.mem_cons,List.not_mem_nil,or_false]at hi;subst hi;omega) d8
  have c8:=zk b4;have c9:=zk b5;have c7:=zk a8;clear a0 a9 b2 hD a1 a6 b8 b6 b4 b5 a8;go_wp2_with fail
  refine c6.mono ?_;rintro e w9 ⟨rfl,b9⟩;have d4:=zk b9;clear b9 c6;go_wp2;go_ret;refine⟨zq (by rw[HR.out]),?_⟩;rw[HR.out];have h9:=d4.out;simp only[List.flatten_cons,List.flatten_nil,List.append_nil]at h9;exact zR.trans (c8.out.trans (zj.of_below c7.out)) c9.out h9
 ·have a2:R.fndI st.brs name<0:=by rw[R.fndI,if_neg hf];omega
  have HR:Hid (R.dropped st name=(5,st)):=by show _=_;rw[R.dropped,if_pos a2]
  rw[decide_eq_false hf]at a4;have d3:=zk a7;clear a7 hi hP a2 hf;go_enter Tryz.func37,Tryz.ntmps37;go_wp2_with fail
  refine a4.mono ?_;rintro e w1 ⟨rfl,b3⟩;subst b3;go_wp2;go_ret;exact⟨zq (by rw[HR.out]),by rw[HR.out];exact zR.same d3.out (j0g _ _)⟩
theorem vx {α:Type}(l m:List α)(k:Nat)(h1:k<l.length)(h2:k<m.length)(h:l.take k=m.take k)(e:l[k]=m[k]):l.take (k+1)=m.take (k+1):=by
 rw[List.take_succ_eq_append_getElem h1,List.take_succ_eq_append_getElem h2,h,e]
theorem gt (v u:Value)(l m:List (List UInt8))(w:World)(M:Nat→Prop)(h:Rd w M v l.length (l.map S))(h' :Rd w M u m.length (m.map S)):
  Calls Tryz.prog 181 #[v,u] w fun e w' =>e= .returned (.bool (decide (l=m)))∧Below w.heap.size w w' :=by
 obtain⟨a,c,rfl,hn,hm,hc⟩:=h;obtain⟨a',c',rfl,b9,b8,b3⟩:=h';unfold maxLen at hm b8;have HC:=zd hc;have b5 :=zd b3;clear hc b3;by_cases hl:l.length=m.length
 ·have b0:((l.length:Int) !=(m.length:Int))=false:=by simp[hl]
  have HL:=zd hl;have a4:(l.length:Int)=(m.length:Int):=by omega
  clear hl;obtain⟨n,a2⟩:∃n,n=m.length:=⟨_,rfl⟩
  have a5:l.length=n:=by rw[a2];exact HL.out
  rw[←a2]at b9 b0 a4⊢;rw[a5]at hn b0 a4⊢;have a8:=zd a2;have a7:=zd a5;clear a2 a5 b0 a4;go_enter Tryz.func181,Tryz.ntmps181;go_wp2;go_loopw [13] (fun i wr=>∃k q:Nat,k≤n∧i= .int .i64 k∧l.take k=m.take k∧wr=w.drewN q) (fun i _=>n-(intOf i).toNat)
  case atStart=>exact⟨0,0,Nat.zero_le _,rfl,by simp,rfl⟩
  case round=>
   obtain⟨k,q,hk,rfl,b4,rfl⟩:=hrel;have a9:=zd b4;clear b4;by_cases c6:k<n
   ·have a0:k<l.length:=by have:=a7.out;omega
    have a1:k<m.length:=by have:=a8.out;omega
    obtain⟨b,off,rfl,_,_,h1⟩:=HC.out (by omega);obtain⟨b',a6,rfl,_,_,h2⟩:=b5.out (by omega);have d1:w.cell? ⟨b,off+k,none⟩=some (.string ⟨(l[k]'a0).toArray⟩):=h1 k _ (by simp[a0,S]);have d2:w.cell? ⟨b',a6 +k,none⟩=some (.string ⟨(m[k]'a1).toArray⟩):=h2 k _ (by simp[a1,S]);clear h1 h2;by_cases he:l[k]'a0=m[k]'a1
    ·have b7:=zd (vx l m k a0 a1 a9.out he)
     have b1:((l[k]'a0)==(m[k]'a1))=true:=by simpa using he
     have b2:((l[k]'a0) !=(m[k]'a1))=false:=by simpa using he
     clear he;generalize l[k]'a0=x at*;generalize m[k]'a1=y at*;go_wp2;go_quiet (fail)
     go_wp2;go_roundw
     case rel=>exact⟨k+1,_,by omega,by go_num,b7.out,by first|rfl|exact World.drewN_drewN _ _ _⟩
     case measure=>simp[intOf];omega
    ·have a3:Hid (decide (l=m)=false):=by
      refine decide_eq_false fun e=>he ?_
      subst e;rfl
     have b1:((l[k]'a0)==(m[k]'a1))=false:=by simpa using he
     have b2:((l[k]'a0) !=(m[k]'a1))=true:=by simpa using he
     clear he;generalize l[k]'a0=x at*;generalize m[k]'a1=y at*;go_wp2;go_quiet (fail)
     go_wp2;go_ret;rw[a3.out];exact⟨rfl,below_drewN (below_drewN (j0g _ _) _) _⟩
   ·obtain rfl:k=n:=by omega
    have b6:Hid (decide (l=m)=true):=by
     refine decide_eq_true ?_;have:=a9.out;rwa[List.take_of_length_le (by have:=a7.out;omega),List.take_of_length_le (by have:=a8.out;omega)]at this
    go_wp2;go_ret;rw[b6.out];exact⟨rfl,below_drewN (j0g _ _) _⟩
 ·have b0:((l.length:Int) !=(m.length:Int))=true:=by simp;omega
  have b1:((l.length:Int)==(m.length:Int))=false:=by simp;omega
  have a3:Hid (decide (l=m)=false):=decide_eq_false fun e=>hl (by rw[e])
  clear hl;go_enter Tryz.func181,Tryz.ntmps181;go_wp2;go_ret;rw[a3.out];exact⟨rfl,j0g _ _⟩
def YP (x y:R.Leaf):Bool:=decide (pk x=pk y∧x.n=y.n∧x.text=y.text∧x.items=y.items)
theorem Jv {x y:R.Leaf}(hx:OkL x)(hy:OkL y)(hp:x.path=y.path):YP x y=true↔x=y:=by
 constructor
 ·intro h
  obtain⟨h1,h2,h3,h4⟩:=of_decide_eq_true h;obtain⟨p,k,n,t,it⟩:=x;obtain⟨p',k',n',t',a0⟩:=y;simp only at hp h2 h3 h4;subst hp h2 h3 h4;have hk:k=k' :=by
   rcases hx.kind with e|e|e<;>rcases hy.kind with e' |e' |e' <;>simp only at e e' <;>simp[pk,e.1,e'.1]at h1<;>rw[e.1,e'.1]
  rw[hk]
 ·intro h
  subst h;exact decide_eq_true ⟨rfl,rfl,rfl,rfl⟩
theorem Gl (x y:R.Leaf)(ia ja:Option Addr)(ic jc:Nat)(w:World)(M:Nat→Prop)(h:It w M (x,.slice ia x.items.length ic))(h' :It w M (y,.slice ja y.items.length jc)):
  Calls Tryz.prog 132 #[.agg #[.int .i64 (pk x),.int .i64 x.n,.string ⟨x.text.toArray⟩,.slice ia x.items.length ic],.agg #[.int .i64 (pk y),.int .i64 y.n,.string ⟨y.text.toArray⟩,.slice ja y.items.length jc]] w fun e w' =>e= .returned (.bool (YP x y))∧Below w.heap.size w w' :=by
 have HE:Hid (∀W,Below w.heap.size w W→Calls Tryz.prog 181 #[.slice ia x.items.length ic,.slice ja y.items.length jc] W fun e w' =>e= .returned (.bool (decide (x.items=y.items)))∧Below W.heap.size W w'):=fun W hW=>gt _ _ x.items y.items W M (Rd.below h hW) (Rd.below h' hW)
 clear h h';by_cases h1:pk x=pk y
 ·by_cases h2:x.n=y.n
  ·by_cases h3:x.text=y.text
   ·have HS:Hid (YP x y=decide (x.items=y.items)):=by show _=_;simp[YP,h1,h2,h3]
    have e1:(pk x==pk y)=true:=by simpa using h1
    have e2:(x.n==y.n)=true:=by simpa using h2
    have e3:(x.text==y.text)=true:=by simpa using h3
    have HB:Hid (Below w.heap.size w ((w.alloc (.cells #[.int .i64 (pk x),.int .i64 x.n,.string ⟨x.text.toArray⟩,.slice ia x.items.length ic] 137)).alloc (.cells #[.int .i64 (pk y),.int .i64 y.n,.string ⟨y.text.toArray⟩,.slice ja y.items.length jc] 137))):=((j0g _ _).alloc (j0a _) _).alloc (by simp) _;clear h1 h2 h3;generalize decide (x.items=y.items)=bb at*;go_enter Tryz.func132,Tryz.ntmps132;go_wp2_with fail
    refine(HE.out _ HB.out).mono ?_;rintro e w1 ⟨rfl,a0⟩;have a1:Hid (Below w.heap.size w w1):=HB.out.trans (a0.mono HB.out.size);clear a0
    cases bb
    all_goals
     go_wp2;go_ret;rw[HS.out];exact⟨zm (by simp),a1.out⟩
   ·have HS:Hid (YP x y=false):=by show _=_;simp[YP,h3]
    have e1:(pk x==pk y)=true:=by simpa using h1
    have e2:(x.n==y.n)=true:=by simpa using h2
    have e3:(x.text==y.text)=false:=by simpa using h3
    clear h1 h2 h3;go_enter Tryz.func132,Tryz.ntmps132;go_wp2;go_ret;rw[HS.out];exact⟨zm (by simp),((j0g _ _).alloc (j0a _) _).alloc (by simp) _⟩
  ·have HS:Hid (YP x y=false):=by show _=_;simp[YP,h2]
   have e1:(pk x==pk y)=true:=by simpa using h1
   have e2:(x.n==y.n)=false:=by simpa using h2
   clear h1 h2;go_enter Tryz.func132,Tryz.ntmps132;go_wp2;go_ret;rw[HS.out];exact⟨zm (by simp),((j0g _ _).alloc (j0a _) _).alloc (by simp) _⟩
 ·have HS:Hid (YP x y=false):=by show _=_;simp[YP,h1]
  have e1:(pk x==pk y)=false:=by simpa using h1
  clear h1;go_enter Tryz.func132,Tryz.ntmps132;go_wp2;go_ret;rw[HS.out];exact⟨zm (by simp),((j0g _ _).alloc (j0a _) _).alloc (by simp) _⟩
theorem Gn (x y:R.Leaf)(ia ja:Option Addr)(ic jc:Nat)(w:World)(M:Nat→Prop)(h:It w M (x,.slice ia x.items.length ic))(h' :It w M (y,.slice ja y.items.length jc)):
  Calls Tryz.prog 131 #[.agg #[.string ⟨x.path.toArray⟩,.int .i64 (pk x),.int .i64 x.n,.string ⟨x.text.toArray⟩,.slice ia x.items.length ic],.agg #[.string ⟨y.path.toArray⟩,.int .i64 (pk y),.int .i64 y.n,.string ⟨y.text.toArray⟩,.slice ja y.items.length jc]] w fun e w' =>e= .returned (.bool ((x.path==y.path)&&YP x y))∧Below w.heap.size w w' :=by
 have HE:Hid (∀W,Below w.heap.size w W→Calls Tryz.prog 132 #[.agg #[.int .i64 (pk x),.int .i64 x.n,.string ⟨x.text.toArray⟩,.slice ia x.items.length ic],.agg #[.int .i64 (pk y),.int .i64 y.n,.string ⟨y.text.toArray⟩,.slice ja y.items.length jc]] W fun e w' =>e= .returned (.bool (YP x y))∧Below W.heap.size W w'):=fun W hW=>Gl x y ia ja ic jc W M (Rd.below h hW) (Rd.below h' hW)
 have HB:Hid (Below w.heap.size w ((w.alloc (.cells #[.string ⟨x.path.toArray⟩,.int .i64 (pk x),.int .i64 x.n,.string ⟨x.text.toArray⟩,.slice ia x.items.length ic] 139)).alloc (.cells #[.string ⟨y.path.toArray⟩,.int .i64 (pk y),.int .i64 y.n,.string ⟨y.text.toArray⟩,.slice ja y.items.length jc] 139))):=((j0g _ _).alloc (j0a _) _).alloc (by simp) _;clear h h'
 cases e0:(x.path==y.path)
 ·go_enter Tryz.func131,Tryz.ntmps131
  go_wp2;go_ret;exact⟨zm (by simp),HB.out⟩
 ·generalize YP x y=bb at*
  go_enter Tryz.func131,Tryz.ntmps131;go_wp2_with fail
  refine(HE.out _ HB.out).mono ?_;rintro e w1 ⟨rfl,a0⟩;have a1:Hid (Below w.heap.size w w1):=HB.out.trans (a0.mono HB.out.size);clear a0
  cases bb
  all_goals
   go_wp2;go_ret;exact⟨zm (by simp),a1.out⟩
theorem uk (v u:Value)(t s:List R.Leaf)(w:World)(M:Nat→Prop)(h:PT w M v t)(h' :PT w M u s)(ht:∀x∈t,OkL x)(hs:∀x∈s,OkL x):
  Calls Tryz.prog 130 #[v,u,.func (.func 131) #[] #[]] w fun e w' =>∃b:Bool,(b=true↔t=s)∧e= .returned (.bool b)∧Below w.heap.size w w' :=by
 obtain⟨L,hL,⟨a,c,rfl,hn,hm,hc⟩,hI⟩:=h;obtain⟨L',b2,⟨a',c',rfl,f6,f5,d3⟩,c7⟩:=h';unfold maxLen at hm f5;have a5:t.length=L.length:=by rw[←hL,List.length_map]
 have a6:s.length=L'.length:=by rw[←b2,List.length_map]
 have HC:=zd hc;have e5 :=zd d3;have HI:=zd hI;have e7 :=zd c7;have HL:=zd hL;have e8 :=zd b2;have HT:=zd ht;have HS:=zd hs;clear hc d3 hI c7 hL b2 ht hs;by_cases hl:L.length=L'.length
 ·obtain⟨n,a7⟩:∃n,n=L'.length:=⟨_,rfl⟩
  have b3:L.length=n:=by rw[a7];exact hl
  rw[←a7]at f6 ⊢;rw[b3]at hn⊢;have b8:=zd a7;have b7:=zd b3;have a3:=zd a5;have a2:=zd a6;clear a7 b3 hl a5 a6;go_enter Tryz.func130,Tryz.ntmps130;go_wp2;go_loopw [17] (fun i wr=>∃k:Nat,k≤n∧i= .int .i64 k∧t.take k=s.take k∧Below w.heap.size w wr) (fun i _=>n-(intOf i).toNat)
  case atStart=>exact⟨0,Nat.zero_le _,rfl,by simp,j0g _ _⟩
  case round=>
   obtain⟨k,hk,rfl,d9,hb⟩:=hrel;have c6:=zd d9;have HB:=zd hb;clear d9;by_cases a5:k<n
   ·have d6:k<L.length:=by have:=b7.out;omega
    have d7:k<L'.length:=by have:=b8.out;omega
    obtain⟨b,off,rfl,a4,_,h1⟩:=HC.out (by omega);obtain⟨b',f8,rfl,a0,_,h2⟩:=e5.out (by omega);obtain⟨x,ia,ic,f0,d4,c0,c1,c2,c3,c4⟩:=v9 HI.out h1 k d6;obtain⟨y,ja,jc,f3,d5,e0,e1,e2,e3,e4⟩:=v9 e7.out h2 k d7;have b5:t[k]'(by have:=a3.out;omega)=x:=by
     have e:t[k]? =(L.map (·.1))[k]? :=by rw[HL.out]
     rw[List.getElem?_map,j0d d6,j0d (by have:=a3.out;omega),f0.out]at e;exact Option.some.inj e
    have b4:s[k]'(by have:=a2.out;omega)=y:=by
     have e:s[k]? =(L'.map (·.1))[k]? :=by rw[e8.out]
     rw[List.getElem?_map,j0d d7,j0d (by have:=a2.out;omega),f3.out]at e;exact Option.some.inj e
    have a8:OkL x:=by rw[←b5];exact HT.out _ (j0c _)
    have d8:OkL y:=by rw[←b4];exact HS.out _ (j0c _)
    have up:∀(bb o:Nat) (u:Value),bb<w.heap.size→w.cell? ⟨bb,o,none⟩=some u→wr.cell? ⟨bb,o,none⟩=some u:=fun bb o u h1 h2=>by
     rw[hb.cell (p:=⟨bb,o,none⟩) h1];exact h2
    have c0:=up _ _ _ a4 c0;have c1:=up _ _ _ a4 c1;have c2:=up _ _ _ a4 c2;have c3:=up _ _ _ a4 c3;have c4:=up _ _ _ a4 c4;have e0:=up _ _ _ a0 e0;have e1:=up _ _ _ a0 e1;have e2:=up _ _ _ a0 e2;have e3:=up _ _ _ a0 e3;have e4:=up _ _ _ a0 e4;have f7:=hb.size;have f9:b<wr.heap.size:=by omega
    have f4 :b' <wr.heap.size:=by omega
    have b9:Hid (∀W,Below w.heap.size w W→Calls Tryz.prog 131 #[.agg #[.string ⟨x.path.toArray⟩,.int .i64 (pk x),.int .i64 x.n,.string ⟨x.text.toArray⟩,.slice ia x.items.length ic],.agg #[.string ⟨y.path.toArray⟩,.int .i64 (pk y),.int .i64 y.n,.string ⟨y.text.toArray⟩,.slice ja y.items.length jc]] W fun e w' =>e= .returned (.bool ((x.path==y.path)&&YP x y))∧Below W.heap.size W w'):=fun W hW=>Gn x y ia ja ic jc W M (Rd.below d4 hW) (Rd.below d5 hW)
    have a9:Hid (Below w.heap.size w ((wr.alloc (.cells #[.string ⟨x.path.toArray⟩,.int .i64 (pk x),.int .i64 x.n,.string ⟨x.text.toArray⟩,.slice ia x.items.length ic] 139)).alloc (.cells #[.string ⟨y.path.toArray⟩,.int .i64 (pk y),.int .i64 y.n,.string ⟨y.text.toArray⟩,.slice ja y.items.length jc] 139))):=(hb.alloc f7 _).alloc (by simp;omega) _;have a1:Hid ((((x.path==y.path)&&YP x y)=true↔x=y)∧t[k]'(by have:=a3.out;omega)=x∧s[k]'(by have:=a2.out;omega)=y):=by
     refine⟨?_,b5,b4⟩;rw[Bool.and_eq_true,beq_iff_eq];constructor
     ·rintro⟨h1,h2⟩
      exact(Jv a8 d8 h1).1 h2
     ·intro e
      subst e;exact⟨rfl,(Jv a8 a8 rfl).2 rfl⟩
    obtain⟨bb,c9⟩:∃bb,bb=((x.path==y.path)&&YP x y):=⟨_,rfl⟩
    rw[←c9]at a1 b9;clear h1 h2 up d4 d5 b5 b4 hb a8 d8 c9;go_wp2_with fail
    refine(b9.out _ a9.out).mono ?_;rintro e w5 ⟨rfl,c8⟩;have b6:Hid (Below w.heap.size w w5):=a9.out.trans (c8.mono a9.out.size);clear c8
    cases bb
    ·go_wp2
     go_ret;refine⟨false,⟨fun h=>(by cases h),fun h=> ?_⟩,rfl,b6.out⟩;subst h;have h1:=a1.out.2.1;have h2:=a1.out.2.2;exact a1.out.1.2 (h1.symm.trans h2)
    ·go_wp2
     go_roundw
     case rel=>
      refine⟨k+1,by omega,by go_num,?_,b6.out⟩;refine vx t s k (by have:=a3.out;omega) (by have:=a2.out;omega) c6.out ?_;rw[a1.out.2.1,a1.out.2.2];exact a1.out.1.1 (by first|trivial|rfl)
     case measure=>simp[intOf];omega
   ·obtain rfl:k=n:=by omega
    have e6:Hid (t=s):=by
     have:=c6.out;rwa[List.take_of_length_le (by have:=a3.out;have:=b7.out;omega),List.take_of_length_le (by have:=a2.out;have:=b8.out;omega)]at this
    clear hb;go_wp2;go_ret;exact⟨true,⟨fun _=>e6.out,fun _=>rfl⟩,rfl,HB.out⟩
 ·have b0:((L.length:Int) !=(L'.length:Int))=true:=by simp;omega
  have b1:((L.length:Int)==(L'.length:Int))=false:=by simp;omega
  have e9:Hid (t≠s):=fun e=>hl (by rw[←a5,←a6,e])
  clear hl a5 a6;go_enter Tryz.func130,Tryz.ntmps130;go_wp2;go_ret;exact⟨false,⟨fun h=>(by cases h),fun h=>absurd h e9.out⟩,rfl,j0g _ _⟩
theorem Gm (v u:Value)(t s:List R.Leaf)(w:World)(M:Nat→Prop)(h:PT w M v t)(h' :PT w M u s)(ht:∀x∈t,OkL x)(hs:∀x∈s,OkL x):
  Calls Tryz.prog 83 #[v,u] w fun e w' =>∃b:Bool,(b=true↔t=s)∧e= .returned (.bool b)∧Below w.heap.size w w' :=by
 have HE:=zd (uk v u t s w M h h' ht hs);clear h h' ht hs;go_enter Tryz.func83,Tryz.ntmps83;go_wp2_with fail
 refine HE.out.mono ?_;rintro e w1 ⟨b,a1,rfl,a0⟩;go_wp2;go_ret;exact⟨b,a1,rfl,a0⟩
theorem Tryz.info114:(Tryz.prog.info? 114).map (fun i=>(i.zero,i.size,i.bytes))=some (some (.agg #[.slice none 0 0,.slice none 0 0]),2,48):=by kernel_rfl
theorem uJ (L:List (R.Cm×Value×Value))(p:R.Cm×Value×Value):YN (L++ [p])=YN L++ [p.2.1,p.2.2]:=by simp[YN]
theorem oS {w w5:World}{M O:Nat→Prop}{B:Nat}{st:R.St}{bv cv:Value}{LB:List BrP}{a2:List (R.Cm×Value×Value)}(hP:PSx w M O B st bv cv LB a2){v3 tv pv:Value}{c:R.Cm}
  (hK:zj (fun b=>cv.ownBlock=some b) w w5)(a0:w5.ownsRow 0 114 2 v3 (a2.length+1) (YN a2++ [pv,tv]))(a3:∀g,v3.ownBlock=some g→cv.ownBlock=some g∨w.heap.size≤g)
  (b4:PT w5 (fun b=>M b∨(O b∨v3.ownBlock=some b)) tv c.tree)(b3:Rd w5 (fun b=>M b∨(O b∨v3.ownBlock=some b)) pv c.parents.length (c.parents.map fun(n:Nat)=>Value.int .i64 (n:Int))):
  PSx (w5.setCell ⟨B,1,none⟩ v3) (fun b=>M b∨(O b∨v3.ownBlock=some b)) (fun b=>O b∨v3.ownBlock=some b) B {st with cms:=st.cms++ [c]} bv v3 LB (a2++ [(c,pv,tv)])∧zj O w (w5.setCell ⟨B,1,none⟩ v3)∧(∀b,(O b∨v3.ownBlock=some b)→O b∨w.heap.size≤b):=by
 have a9:=hP.lt B hP.own;have a7:cv.ownBlock≠some B:=fun e=>(hP.crowO B e).2.1 rfl
 have b5:=hK.size;have a1:v3.ownBlock≠some B:=fun e=>by
  rcases a3 B e with e|e
  ·exact a7 e
  ·omega
 have K5:zj (fun b=>b=B) w5 (w5.setCell ⟨B,1,none⟩ v3):=(zj.refl (fun b=>b=B) w5).setCell (p:=⟨B,1,none⟩) (.inl rfl) v3;have Kf:zj (fun b=>cv.ownBlock=some b∨b=B) w (w5.setCell ⟨B,1,none⟩ v3):=(hK.mono (fun b e=> .inl e)).setCell (p:=⟨B,1,none⟩) (.inl (.inr rfl)) v3;have a4:∀o,w5.cell? ⟨B,o,none⟩=w.cell? ⟨B,o,none⟩:=fun o=>hK.cell (p:=⟨B,o,none⟩) a9 a7
 have a6:∀b,(cv.ownBlock=some b∨b=B)→M b:=fun b e=>by
  rcases e with e|e
  ·exact hP.sub b (hP.crowO b e).1
  ·rw[e];exact hP.sub B hP.own
 have b1 :∀b,(O b∨v3.ownBlock=some b)→O b∨w.heap.size≤b:=fun b e=>by
  rcases e with e|e
  ·exact .inl e
  ·rcases a3 b e with e|e
   ·exact .inl (hP.crowO b e).1
   ·exact .inr e
 have a5 :∀b,(M b∨(O b∨v3.ownBlock=some b))→M b∨w.heap.size≤b:=fun b e=>by
  rcases e with e|e
  ·exact .inl e
  ·rcases b1 b e with e|e
   ·exact .inl (hP.sub b e)
   ·exact .inr e
 have a8:∀b,b=B→(M b∨(O b∨v3.ownBlock=some b)):=fun b e=> .inl (by rw[e];exact hP.sub B hP.own)
 have b0:∀b,(M b∨(O b∨v3.ownBlock=some b))→(M b∨(O b∨v3.ownBlock=some b))∨w5.heap.size≤b:=fun b e=> .inl e
 have b2:∀g,O g→cv.ownBlock≠some g→v3.ownBlock≠some g:=fun g h1 h2 e=>by
  rcases a3 g e with e|e
  ·exact h2 e
  ·have:=hP.lt g h1;omega
 refine⟨⟨fun b e=> .inr e,fun b e=> ?_,.inl hP.own,?_,?_,fun o=> ?_,hP.brs,zh hP.row Kf (fun g e e2=> ?_),fun g e=>⟨.inl (hP.rowO g e).1,(hP.rowO g e).2⟩,fun p hp=>(hP.at_ p hp).kept Kf (hP.lt _ (hP.blk p hp).1) (fun e=> ?_) a6 a5,fun p hp=>⟨.inl (hP.blk p hp).1,(hP.blk p hp).2.1,(hP.blk p hp).2.2.1,b2 _ (hP.blk p hp).1 (hP.blk p hp).2.2.2⟩,hP.dist,?_,?_,fun g e=>⟨.inr e,fun e2=>a1 (by rw[←e2];exact e),fun e2=> ?_⟩,fun p hp=> ?_,fun p hp=> ?_,?_⟩,Kf.mono (fun b e=> ?_),b1⟩
 ·rcases e with e|e
  ·exact j0b (hP.lt b e) Kf.size
  ·exact j0b (a0.lt b e).2 K5.size
 ·rw[z9 _ _ _ _ _ (by omega),a4];exact hP.c0
 ·exact zD _ _ _ _ cv (by rw[a4];exact hP.c1)
 ·rw[World.frozen?_setCell,hK.frozen (p:=⟨B,o,none⟩) a9 a7];exact hP.fr o
 ·rcases e2 with e2|e2
  ·exact(hP.crowO g e2).2.2 e
  ·exact(hP.rowO g e).2 e2
 ·rcases e with e|e
  ·exact(hP.blk p hp).2.2.2 e
  ·exact(hP.blk p hp).2.1 e
 ·rw[List.map_append,hP.cms];rfl
 ·rw[List.length_append,List.length_singleton,uJ]
  exact zh a0 K5 (fun g e e2=>a1 (by rw[←e2];exact e))
 ·rcases a3 g e with e3|e3
  ·exact(hP.crowO g e3).2.2 e2
  ·have:=hP.lt g (hP.rowO g e2).1;omega
 ·rcases List.mem_append.1 hp with hp|hp
  ·exact(hP.ctree p hp).step Kf a6 a5
  ·rw[List.mem_singleton.1 hp];exact b4.step K5 a8 b0
 ·rcases List.mem_append.1 hp with hp|hp
  ·exact(hP.cpar p hp).step Kf a6 a5
  ·rw[List.mem_singleton.1 hp];exact b3.step K5 a8 b0
 ·obtain⟨kv,hk⟩:=hP.pk
  refine⟨kv,by rw[z9 _ _ _ _ _ (by omega),a4];exact hk.c2,zh hk.row Kf (fun g e e2=> ?_),fun g e=>⟨.inl (hk.rowO g e).1,(hk.rowO g e).2.1,(hk.rowO g e).2.2.1,b2 g (hk.rowO g e).1 (hk.rowO g e).2.2.2.1,(hk.rowO g e).2.2.2.2⟩⟩;rcases e2 with e2|e2
  ·exact(hk.rowO g e).2.2.2.1 e2
  ·exact(hk.rowO g e).2.1 e2
 ·rcases e with e|e
  ·exact(hP.crowO b e).1
  ·rw[e];exact hP.own
theorem PS.cms1 {w:World}{M O:Nat→Prop}{B:Nat}{st:R.St}(h:PS w M O B st):∃a c,w.cell? ⟨B,1,none⟩=some (.slice a st.cms.length c)∧st.cms.length≤c∧c≤maxLen:=by
 obtain⟨bv,cv,LB,a0,hR⟩:=h;obtain⟨a,c,hv,h1,h2,_⟩:=za hR.crow;have hl:a0.length=st.cms.length:=by rw[←hR.cms,List.length_map]
 rw[hl]at hv h1;exact⟨a,c,by rw[←hv];exact hR.c1,h1,h2⟩
