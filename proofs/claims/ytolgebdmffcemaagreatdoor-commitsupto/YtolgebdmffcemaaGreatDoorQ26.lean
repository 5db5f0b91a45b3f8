import Derived.Test.YtolgebdmffcemaaGreatDoorQ24
import Derived.Test.YtolgebdmffcemaaGreatDoorShelf
import Derived.Lib.IndexBytes
import Derived.Lib.SplitLaws
import Derived.Test.YtolgebdmffcemaaGreatDoorQ16
import Derived.Lib.AppendStr
import Derived.Conc.Own4
set_option linter.all false
set_option maxHeartbeats 20000000
set_option maxRecDepth 1000000
namespace Go.Proofs.YtolgebdmffcemaaGreatDoor
open Go.RowKit Go.Shelf
theorem Y2:∀a b:List UInt8,decide (Lib.compareBytes a b<0)=Op.bytesLess a b
 |[],[]=>rfl
 |[],_::_=>rfl
 |_::_,[]=>rfl
 |a::x,b::y=>by
  have ih:=Y2 x y;rw[Lib.compareBytes,Op.bytesLess];by_cases h1:a<b
  ·rw[if_pos h1];simp[h1]
  ·rw[if_neg h1]
   by_cases h2:b<a
   ·rw[if_pos h2]
    have:a≠b:=fun e=>by subst e;exact UInt8.lt_irrefl _ h2
    simp[h1,this]
   ·rw[if_neg h2]
    have:a=b:=UInt8.le_antisymm (UInt8.not_lt.1 h2) (UInt8.not_lt.1 h1);subst this;rw[ih];simp
theorem vm:∀a b:List UInt8,(Lib.compareBytes a b==0)=(a==b)
 |[],[]=>rfl
 |[],_::_=>rfl
 |_::_,[]=>rfl
 |a::x,b::y=>by
  have ih:=vm x y;rw[Lib.compareBytes];by_cases h1:a<b
  ·have:a≠b:=fun e=>by subst e;exact UInt8.lt_irrefl _ h1
   rw[if_pos h1];simp[this]
  ·rw[if_neg h1]
   by_cases h2:b<a
   ·have:a≠b:=fun e=>by subst e;exact UInt8.lt_irrefl _ h2
    rw[if_pos h2];simp[this]
   ·rw[if_neg h2]
    have:a=b:=UInt8.le_antisymm (UInt8.not_lt.1 h2) (UInt8.not_lt.1 h1);subst this;rw[ih];simp
theorem X7:∀a b:List UInt8, -1≤Lib.compareBytes a b∧Lib.compareBytes a b≤1
 |[],[]=>by simp[Lib.compareBytes]
 |[],_::_=>by simp[Lib.compareBytes]
 |_::_,[]=>by simp[Lib.compareBytes]
 |a::x,b::y=>by
  have ih:=X7 x y;rw[Lib.compareBytes];split
  ·omega
  ·split
   ·omega
   ·exact ih
theorem jr (x:R.Leaf)(ia:Option Addr)(il ic:Nat)(s:List UInt8)(w:World):
  Calls Tryz.prog 195 #[.agg #[.string ⟨x.path.toArray⟩,.int .i64 (pk x),.int .i64 x.n,.string ⟨x.text.toArray⟩,.slice ia il ic],.string ⟨s.toArray⟩] w fun e w' =>e= .returned (.int .i64 (Lib.compareBytes x.path s))∧Below w.heap.size w w' :=by
 go_enter Tryz.func195,Tryz.ntmps195;go_wp2_with fail
 refine(Tryz.strings_Compare _ _ _).mono ?_;rintro e w1 ⟨rfl,rfl⟩;go_wp2;go_ret;exact⟨rfl,(j0g _ _).alloc (j0a _) _⟩
theorem jP (v:Value)(t:List R.Leaf)(s:List UInt8)(w:World)(M:Nat→Prop)(h:PT w M v t)(hl:t.length≤1000000)(a2:Y4 t):
  Calls Tryz.prog 194 #[v,.string ⟨s.toArray⟩,.func (.func 195) #[] #[]] w fun e w' =>e= .returned (.tuple #[.int .i64 (y8 t s:Int),.bool (t.any fun x=>x.path==s)])∧Below w.heap.size w w' :=by
 obtain⟨L,hL,⟨a,cap,rfl,hn,hm,hc⟩,hI⟩:=h;have a7:t.length=L.length:=by rw[←hL,List.length_map]
 have HT:Hid (∀(i:Nat) (h:i<L.length) (hb:i<t.length),t[i]'hb=(L[i]'h).1):=by intro i h hb;subst hL;simp
 have a3:Hid (t.length=L.length):=a7;rw[a7]at hl;have a5:=a2.mono s;unfold maxLen at hm;clear a7;go_enter Tryz.func194,Tryz.ntmps194;go_wp2;go_loopw [9,10] (fun i j wr=>∃p q:Nat,p≤q∧q≤L.length∧i= .int .i64 p∧j= .int .i64 q∧(∀k (h:k<t.length),k<p→zT s t[k].path=true)∧(∀k (h:k<t.length),q≤k→zT s t[k].path=false)∧Below w.heap.size w wr) (fun i j _=>(intOf j).toNat-(intOf i).toNat)
 case atStart=>exact⟨0,L.length,Nat.zero_le _,j0a _,rfl,rfl,fun k _ h=>by omega,fun k h h' =>by rw[a3.out]at h;omega,j0g _ _⟩
 case round=>
  obtain⟨p,q,c6,hq,rfl,rfl,hA,hB,hb⟩:=hrel;have HA:=zk hA;have HB:=zk hB;have b3:=zk a5;have HS:=zk a2;clear hA hB a5 a2;by_cases b8:p<q
  ·obtain⟨b,off,rfl,a1,_,a0⟩:=hc (by omega)
   obtain⟨h,hh⟩:∃h:Nat,h=(p+q)/2:=⟨_,rfl⟩
   have b9:p≤h:=by omega
   have c7:h<q:=by omega
   have a9:h<L.length:=by omega
   have b7:((p:Int)+(q:Int))/2=(h:Int):=by omega
   obtain⟨x,ia,ic,HL,b6,c0,c1,c2,c3,c4⟩:=v9 hI a0 h a9;have HX:Hid (t[h]'(by rw[a3.out];exact a9)=x):=by show _=_;rw[HT.out h a9 _,HL.out]
   have e0:=(hb.cell (p:=⟨b,off+h*5,none⟩) a1).trans c0;have e1:=(hb.cell (p:=⟨b,off+h*5+1,none⟩) a1).trans c1;have e2:=(hb.cell (p:=⟨b,off+h*5+2,none⟩) a1).trans c2;have e3:=(hb.cell (p:=⟨b,off+h*5+3,none⟩) a1).trans c3;have e4:=(hb.cell (p:=⟨b,off+h*5+4,none⟩) a1).trans c4;clear c0 c1 c2 c3 c4 a0 hc hI hh;go_wp2_with fail
   refine(jr x ia x.items.length ic s _).mono ?_;rintro e w1 ⟨rfl,b2⟩;have b0:Below w.heap.size w w1:=hb.trans (b2.mono hb.size);have b5:=X7 x.path s;generalize b1:Lib.compareBytes x.path s=c at b5;by_cases b4:c<0
   ·have HC:Hid (zT s x.path=true):=by show _=_;rw[zT,←Y2,b1];simpa using b4
    clear b1;go_wp2;go_roundw
    case rel=>
     refine⟨h+1,q,by omega,by omega,by go_num,rfl,fun k hk h1=>b3.out k h hk (by rw[a3.out];exact a9) (by omega) (by rw[HX.out];exact HC.out),HB.out,b0⟩
    case measure=>simp[intOf];omega
   ·have HC:Hid (zT s x.path=false):=by show _=_;rw[zT,←Y2,b1];simpa using b4
    clear b1;go_wp2;go_roundw
    case rel=>
     refine⟨p,h,by omega,by omega,rfl,rfl,HA.out,fun k hk h1=> ?_,b0⟩;rw[Bool.eq_false_iff];intro h3;have:=b3.out h k (by rw[a3.out];exact a9) hk h1 h3;rw[HX.out,HC.out]at this;cases this
    case measure=>simp[intOf];omega
  ·obtain rfl:p=q:=by omega
   have HP:Hid (y8 t s=p):=by
    show _=_;unfold y8;by_cases a4:p<t.length
    ·rw[List.findIdx_eq a4]
     exact⟨by simpa using HB.out p a4 (j0a _),fun j hj=>by simpa using HA.out j (by omega) hj⟩
    ·obtain rfl:p=t.length:=by rw[a3.out]at a4⊢;omega
     refine List.findIdx_eq_length.2 fun y hy=> ?_
     obtain⟨k,hk,rfl⟩:=List.getElem_of_mem hy;simpa using HA.out k hk hk
   have HN:Hid (∀k (hk:k<t.length),k<p→(t[k].path==s)=false):=by
    intro k hk a6;have:=HA.out k hk a6;rw[Bool.eq_false_iff];intro e;rw[zT,beq_iff_eq.1 e,zO]at this;cases this
   by_cases a4:p<L.length
   ·obtain⟨b,off,rfl,a1,_,a0⟩:=hc (by omega)
    obtain⟨x,ia,ic,HL,b6,c0,c1,c2,c3,c4⟩:=v9 hI a0 p a4;have HX:Hid (t[p]'(by rw[a3.out];exact a4)=x):=by show _=_;rw[HT.out p a4 _,HL.out]
    have HY:Hid ((t.any fun y=>y.path==s)=(x.path==s)):=by
     show _=_
     cases he:(x.path==s)
     ·rw[Bool.eq_false_iff]
      intro h;obtain⟨y,hy,a8⟩:=List.any_eq_true.1 h;obtain⟨k,hk,rfl⟩:=List.getElem_of_mem hy;rcases Nat.lt_trichotomy k p with a6|a6|a6
      ·have:=HN.out k hk a6;rw[a8]at this;cases this
      ·subst a6;rw[HX.out,he]at a8;cases a8
      ·have h1:=HS.out p k (by rw[a3.out];exact a4) hk a6
       have h2:=HB.out p (by rw[a3.out];exact a4) (j0a _);rw[beq_iff_eq.1 a8]at h1;rw[zT,h1]at h2;cases h2
     ·exact List.any_eq_true.2 ⟨t[p]'(by rw[a3.out];exact a4),j0c _,by rw[HX.out];exact he⟩
    have e0:=(hb.cell (p:=⟨b,off+p*5,none⟩) a1).trans c0;have e1:=(hb.cell (p:=⟨b,off+p*5+1,none⟩) a1).trans c1;have e2:=(hb.cell (p:=⟨b,off+p*5+2,none⟩) a1).trans c2;have e3:=(hb.cell (p:=⟨b,off+p*5+3,none⟩) a1).trans c3;have e4:=(hb.cell (p:=⟨b,off+p*5+4,none⟩) a1).trans c4;clear c0 c1 c2 c3 c4 a0 hc hI;go_wp2_with fail
    refine(jr x ia x.items.length ic s _).mono ?_;rintro e w1 ⟨rfl,b2⟩;have b0:Below w.heap.size w w1:=hb.trans (b2.mono hb.size);have HQ:=zk (vm x.path s);generalize Lib.compareBytes x.path s=c at HQ;go_wp2;go_ret2;exact⟨QK (by rw[HP.out]) (by rw[HY.out,HQ.out]),b0⟩
   ·have HY:Hid ((t.any fun y=>y.path==s)=false):=by
     show _=_;rw[Bool.eq_false_iff];intro h;obtain⟨y,hy,a8⟩:=List.any_eq_true.1 h;obtain⟨k,hk,rfl⟩:=List.getElem_of_mem hy;have:=HN.out k hk (by rw[a3.out]at hk;omega);rw[a8]at this;cases this
    go_wp2;go_ret2;exact⟨QK (by rw[HP.out]) HY.out,hb⟩
theorem J5 (v:Value)(t:List R.Leaf)(s:List UInt8)(w:World)(M:Nat→Prop)(h:PT w M v t)(hl:t.length≤1000000)(a0:Y4 t):
  Calls Tryz.prog 145 #[v,.string ⟨s.toArray⟩] w fun e w' =>e= .returned (.tuple #[.int .i64 (y8 t s:Int),.bool (t.any fun x=>x.path==s)])∧Below w.heap.size w w' :=by
 go_enter Tryz.func145,Tryz.ntmps145;go_wp2_with fail
 refine(jP v t s _ M h hl a0).mono ?_;rintro e w1 ⟨rfl,a1⟩;go_wp2;go_ret2;exact⟨rfl,a1⟩
theorem qh (c:UInt8):∀s:List UInt8,(Lib.indexByte s c= -1∧∀x∈s,x≠c)∨∃a r,s=a++c::r∧(∀x∈a,x≠c)∧Lib.indexByte s c=(a.length:Int)
 |[]=> .inl ⟨rfl,by simp⟩
 |b::l=>by
  by_cases hb:b=c
  ·exact .inr ⟨[],l,by rw[hb];rfl,by simp,by rw[Lib.indexByte,if_pos (by simpa using hb)];rfl⟩
  ·rcases qh c l with⟨h1,h2⟩|⟨a,r,h1,h2,h3⟩
   ·refine .inl ⟨by rw[Lib.indexByte,if_neg (by simpa using hb),if_pos (by simpa using h1)],fun x hx=> ?_⟩
    rcases List.mem_cons.1 hx with rfl|hx
    ·exact hb
    ·exact h2 x hx
   ·refine .inr ⟨b::a,r,by rw[h1];rfl,fun x hx=> ?_,?_⟩
    ·rcases List.mem_cons.1 hx with rfl|hx
     ·exact hb
     ·exact h2 x hx
    ·rw[Lib.indexByte,if_neg (by simpa using hb),if_neg (by rw[h3];simp),h3];simp
theorem Ot:∀(n:Nat) (s:List UInt8),s.length≤n→Lib.splitK [47] 0 (Lib.count s [47]) s=R.spl s
 |n,s,hn=>by
  rcases qh 47 s with⟨h1,h2⟩|⟨a,r,h1,h2,h3⟩
  ·have hi:Lib.index s [47]= -1:=by rw[Lib.index_one,h1]
   rw[Lib.count_miss hi,R.spl_plain s h2];rfl
  ·have hi:Lib.index s [47]=(a.length:Int):=by rw[Lib.index_one,h3]
   cases n with
   |zero=>rw[h1]at hn;simp at hn
   |succ n=>
    have hd:s.drop (a.length+1)=r:=by rw[h1];simp
    have ht:s.take a.length=a:=by rw[h1];simp
    have ih:=Ot n r (by rw[h1]at hn;simp at hn;omega);rw[Lib.count_hit (by simp) hi];simp only[List.length_cons,List.length_nil,Nat.zero_add];rw[hd,Nat.add_comm,Lib.splitK,if_neg (by rw[hi];simp),hi];simp only[Int.toNat_natCast,Nat.add_zero,List.length_cons,List.length_nil,Nat.zero_add];rw[hd,ht,ih];conv=>rhs;rw[h1,R.spl_cut a r h2]
theorem kr (a b:List UInt8):Lib.hasPrefix b (a++ [47])=R.leads a b:=by
 rw[Bool.eq_iff_iff];unfold Lib.hasPrefix R.leads;rw[List.isPrefixOf_iff_prefix];constructor
 ·rintro⟨t,rfl⟩
  simp
 ·intro h
  simp only[Bool.and_eq_true,decide_eq_true_eq,beq_iff_eq]at h;obtain⟨h1,h2,h3⟩:=h;refine⟨b.drop (a.length+1),?_⟩;rw[j0d h1]at h3;have h4:b[a.length]=47:=by simpa using h3
  conv=>rhs;rw[←List.take_append_drop a.length b,h2,List.drop_eq_getElem_cons h1,h4]
  simp
theorem o7 (s t:List UInt8)(w:World)(_hs:s.length≤1000):
  Calls Tryz.prog 193 #[.string ⟨s.toArray⟩,.string ⟨t.toArray⟩] w fun e w' =>e= .returned (.bool (R.leads s t))∧w' =w:=by
 go_enter Tryz.func193,Tryz.ntmps193;go_wp2_with fail
 refine(Tryz.strings_HasPrefix _ _ _).mono ?_;rintro e w1 ⟨rfl,rfl⟩;go_wp2;go_ret;exact⟨zm (by rw[←kr]),rfl⟩
theorem KW:∀(l:List UInt8),l.length+1=((R.spl l).map fun p=>p.length+1).sum
 |[]=>by simp[R.spl]
 |c::r=>by
  have ih:=KW r;rw[R.spl];split
  ·simp only[List.map_cons,List.sum_cons,List.length_nil,List.length_cons];omega
  ·split
   ·rename_i e;rw[e]at ih;simp at ih
   ·rename_i h t e
    rw[e]at ih;simp only[List.map_cons,List.sum_cons,List.length_cons]at ih⊢;omega
theorem VM:∀(L:List (List UInt8)),L.all R.isName=true→(L.map fun p=>p.length+1).sum≤L.length*9
 |[],_=>by simp
 |p::t,h=>by
  simp only[List.all_cons,Bool.and_eq_true]at h;have h1:=VM t h.2;have h2:p.length≤8:=by have:=h.1;simp[R.isName]at this;exact this.2.2
  simp only[List.map_cons,List.sum_cons,List.length_cons];omega
theorem gW (l:List UInt8)(h:(R.spl l).all R.isName=true):l.length+1≤(R.spl l).length*9:=by
 rw[KW l];exact VM _ h
theorem J2 (s:List UInt8)(h:R.isPath s=true):s.length≤35:=by
 simp only[R.isPath,Bool.and_eq_true,decide_eq_true_eq]at h;have:=gW s h.2.1;omega
theorem qA (s:List UInt8):(Lib.splitB ⟨[(47:UInt8)].toArray⟩ 0 (Lib.countB ⟨s.toArray⟩ ⟨[(47:UInt8)].toArray⟩) ⟨s.toArray⟩).map Value.string=(R.spl s).map S:=by
 have h:=Lib.splitB_data ⟨[(47:UInt8)].toArray⟩ 0 (Lib.countB ⟨s.toArray⟩ ⟨[(47:UInt8)].toArray⟩) ⟨s.toArray⟩;rw[show(Lib.splitK (⟨[(47:UInt8)].toArray⟩:ByteArray).data.toList 0 (Lib.countB ⟨s.toArray⟩ ⟨[(47:UInt8)].toArray⟩) (⟨s.toArray⟩:ByteArray).data.toList)=R.spl s from Ot s.length s (j0a _)]at h;rw[←h,List.map_map];apply List.map_congr_left;intro x _;simp[S]
theorem Uz (s:List UInt8):Lib.countB ⟨s.toArray⟩ ⟨[(47:UInt8)].toArray⟩+1=(R.spl s).length:=by
 have h1:=Lib.splitB_all ⟨[(47:UInt8)].toArray⟩ (by simp[ByteArray.size]) 0 _ ⟨s.toArray⟩ rfl;have h2:=congrArg List.length (qA s);rw[List.length_map,List.length_map]at h2;omega
theorem gw (s:List UInt8)(w:World)(hs:s.length≤maxLen)(mx:Int)(a4:w.cell? ⟨0,0,none⟩=some (.int .i64 mx)):
  Calls Tryz.prog 92 #[.string ⟨s.toArray⟩] w fun e w' =>e= .returned (.bool (R.isPath s))∧Below w.heap.size w w' :=by
 unfold maxLen at hs;by_cases a5:35<s.length
 ·go_enter Tryz.func92,Tryz.ntmps92
  go_wp2;go_ret;exact⟨zm (by rw[Bool.eq_false_iff];intro h;have:=J2 s h;omega),j0g _ _⟩
 have a1:=Tryz.strings_Split ⟨s.toArray⟩ ⟨[(47:UInt8)].toArray⟩ mx w (by simp[ByteArray.size];omega) a4 (by simp[ByteArray.size]);rw[qA,Uz]at a1;have HP:Hid (R.isPath s=((R.spl s).all R.isName&&decide ((R.spl s).length≤4))):=by
  show _=_;rw[R.isPath,decide_eq_true (by omega),Bool.true_and]
 have HM:Hid (∀p∈R.spl s,p.length≤1000):=fun p hp=>by have:=R.spl_mem s p hp;omega
 have a7:=(R.spl_length s).1;generalize R.spl s=x at*;go_enter Tryz.func92,Tryz.ntmps92;go_wp2_with fail
 refine a1.mono ?_;rintro e w1 ⟨rfl,a2⟩;have a0:Below w.heap.size w w1:=by rw[a2];exact(j0g _ _).alloc (j0a _) _
 have a3:∀j u,(x.map S)[j]? =some u→w1.cell? ⟨w.heap.size,j,none⟩=some u:=fun j u hu=>by
  rw[a2,World.cell?_alloc_at _ _ _ _ rfl];simpa using hu
 clear a2 a1;by_cases h4:4<x.length
 ·go_wp2
  go_ret;exact⟨zm (by rw[HP.out,decide_eq_false (by omega),Bool.and_false]),a0⟩
 go_wp2;go_loop [16] (fun i=>∃k:Nat,k≤x.length∧i= .int .i64 k∧(x.take k).all R.isName=true) (fun i=>x.length-(intOf i).toNat)
 case atStart=>exact⟨0,Nat.zero_le _,rfl,rfl⟩
 case round=>
  obtain⟨k,a6,rfl,he⟩:=hrel;have HE:Hid ((x.take k).all R.isName=true):=he;clear he;by_cases hx:k<x.length
  ·have a8:w1.cell? ⟨w.heap.size,k,none⟩=some (.string ⟨x[k].toArray⟩):=a3 k _ (by simp[S,hx])
   clear a3;go_wp2_with fail
   refine(uh _ _ (by have:=HM.out x[k] (j0c hx);simp[ByteArray.size,maxLen];omega)).mono ?_;rintro e w2 ⟨rfl,rfl⟩
   cases hr:R.isName x[k]
   ·have HR:Hid (R.isName x[k]=false):=hr
    clear hr;go_wp2;go_ret;exact⟨zm (by rw[HP.out,R.all_bad x _ k hx HR.out];rfl),a0⟩
   ·have HR:Hid (R.isName x[k]=true):=hr
    clear hr;go_wp2;go_round
    case rel=>exact⟨k+1,by omega,by go_num,R.all_snoc x _ k hx HE.out HR.out⟩
    case measure=>simp[intOf];omega
  ·go_wp2
   go_ret;exact⟨zm (by rw[HP.out,R.all_end x _ k hx HE.out,Bool.true_and];exact decide_eq_true (by omega)),a0⟩
theorem gD {t:List R.Leaf}(hs:Y4 t)(s:List UInt8)(h:(t.any fun x=>x.path==s)=true):∃hp:y8 t s<t.length,(t[y8 t s]'hp).path=s∧R.at_ t s=t[y8 t s]'hp:=by
 obtain⟨y,hy,a1⟩:=List.any_eq_true.1 h;obtain⟨k,hk,rfl⟩:=List.getElem_of_mem hy;have a0:t[k].path=s:=by simpa using a1
 have hp:y8 t s=k:=by
  unfold y8;rw[List.findIdx_eq hk];refine⟨by simp[zT,a0,zO],fun j hj=> ?_⟩;have:=hs j k (by omega) hk hj;rw[a0]at this;simp[zT,this]
 have ha:((t.take k).any fun x=>x.path==s)=false:=by
  rw[Bool.eq_false_iff];intro h;obtain⟨z,hz,a2⟩:=List.any_eq_true.1 h;obtain⟨j,hj,rfl⟩:=List.mem_take_iff_getElem.1 hz;have:=hs j k (by omega) hk (by omega);rw[beq_iff_eq.1 a2,a0,zO]at this;cases this
 refine⟨by rw[hp];exact hk,?_,?_⟩
 ·simp only[hp];exact a0
 ·simp only[hp];exact un hk ha a1
theorem Oc {t:List R.Leaf}(s:List UInt8)(h:(t.any fun x=>x.path==s)=false):R.at_ t s=R.none s:=
 find_none (k:=t.length) (by omega) (by rw[List.take_length];exact h)
def PV (x:R.Leaf)(iv:Value):Value:= .agg #[.int .i64 (pk x),.int .i64 x.n,.string ⟨x.text.toArray⟩,iv]
theorem vY (w:World)(W:Nat)(a b c d p q r s:Value)(h0:w.cell? ⟨W,0,none⟩=some p)(h1:w.cell? ⟨W,1,none⟩=some q)(h2:w.cell? ⟨W,2,none⟩=some r)(h3:w.cell? ⟨W,3,none⟩=some s):
  ((((w.setCell ⟨W,0,none⟩ a).setCell ⟨W,1,none⟩ b).setCell ⟨W,2,none⟩ c).setCell ⟨W,3,none⟩ d).cell? ⟨W,0,none⟩=some a∧((((w.setCell ⟨W,0,none⟩ a).setCell ⟨W,1,none⟩ b).setCell ⟨W,2,none⟩ c).setCell ⟨W,3,none⟩ d).cell? ⟨W,1,none⟩=some b∧
  ((((w.setCell ⟨W,0,none⟩ a).setCell ⟨W,1,none⟩ b).setCell ⟨W,2,none⟩ c).setCell ⟨W,3,none⟩ d).cell? ⟨W,2,none⟩=some c∧((((w.setCell ⟨W,0,none⟩ a).setCell ⟨W,1,none⟩ b).setCell ⟨W,2,none⟩ c).setCell ⟨W,3,none⟩ d).cell? ⟨W,3,none⟩=some d:=by
 refine⟨?_,?_,?_,?_⟩
 ·rw[z9 _ _ _ _ _ (by omega),z9 _ _ _ _ _ (by omega),z9 _ _ _ _ _ (by omega)];exact zD _ _ _ _ _ h0
 ·rw[z9 _ _ _ _ _ (by omega),z9 _ _ _ _ _ (by omega)];exact zD _ _ _ _ q (by rw[z9 _ _ _ _ _ (by omega)];exact h1)
 ·rw[z9 _ _ _ _ _ (by omega)];exact zD _ _ _ _ r (by rw[z9 _ _ _ _ _ (by omega),z9 _ _ _ _ _ (by omega)];exact h2)
 ·exact zD _ _ _ _ s (by rw[z9 _ _ _ _ _ (by omega),z9 _ _ _ _ _ (by omega),z9 _ _ _ _ _ (by omega)];exact h3)
theorem O0 (v:Value)(t:List R.Leaf)(s:List UInt8)(w:World)(M:Nat→Prop)(h:PT w M v t)(hl:t.length≤1000000)(a0:Y4 t):
  Calls Tryz.prog 94 #[v,.string ⟨s.toArray⟩] w fun e w' =>∃ia ic,e= .returned (.agg #[.int .i64 (pk (R.at_ t s)),.int .i64 (R.at_ t s).n,.string ⟨(R.at_ t s).text.toArray⟩,.slice ia (R.at_ t s).items.length ic])∧It w M (R.at_ t s,.slice ia (R.at_ t s).items.length ic)∧Below w.heap.size w w' :=by
 have a4:=J5 v t s (w.alloc (.cells #[.int .i64 0,.int .i64 0,.string ⟨#[]⟩,.slice none 0 0] 137)) M (h.below ((j0g _ _).alloc (j0a _) _)) hl a0;obtain⟨L,hL,⟨a,cap,rfl,hn,hm,hc⟩,hI⟩:=h;unfold maxLen at hm
 cases a1:(t.any fun x=>x.path==s)
 ·have e0:=Oc s a1
  rw[a1]at a4;rw[e0];generalize y8 t s=p at a4;clear hc hI a0 e0 a1;go_enter Tryz.func94,Tryz.ntmps94;go_wp2_with fail
  refine a4.mono ?_;rintro e w1 ⟨rfl,a2⟩;have a6:=a2.size;simp only[World.size_alloc]at a6;have hx:∀j u,#[Value.int .i64 0,.int .i64 0,.string ⟨#[]⟩,.slice none 0 0][j]? =some u→w1.cell? ⟨w.heap.size,j,none⟩=some u:=fun j u hu=>by
   rw[a2.cell (p:=⟨w.heap.size,j,none⟩) (by simp),World.cell?_alloc_at _ _ _ _ rfl];exact hu
  have hf:∀j,w1.frozen? ⟨w.heap.size,j,none⟩=false:=fun j=>by
   rw[a2.frozen (p:=⟨w.heap.size,j,none⟩) (by simp),World.frozen?_alloc_at _ _ _ _ rfl]
  have x0:=hx 0 _ rfl;have x1:=hx 1 _ rfl;have x2:=hx 2 _ rfl;have x3:=hx 3 _ rfl;have f0:=hf 0;have f1:=hf 1;have f2:=hf 2;have f3:=hf 3;clear hx hf;go_wp2;obtain⟨z0,z1,z2,z3⟩:=vY w1 w.heap.size (.int .i64 0) (.int .i64 0) (.string ⟨#[]⟩) (.slice none 0 0) _ _ _ _ x0 x1 x2 x3;have a5:Below w.heap.size w ((((w1.setCell ⟨w.heap.size,0,none⟩ (.int .i64 0)).setCell ⟨w.heap.size,1,none⟩ (.int .i64 0)).setCell ⟨w.heap.size,2,none⟩ (.string ⟨#[]⟩)).setCell ⟨w.heap.size,3,none⟩ (.slice none 0 0)):=
   ((((((j0g _ _).alloc (j0a _) _).trans (a2.mono (by simp))).setCell (p:=⟨w.heap.size,0,none⟩) (j0a _) _).setCell (p:=⟨w.heap.size,1,none⟩) (j0a _) _).setCell (p:=⟨w.heap.size,2,none⟩) (j0a _) _).setCell (p:=⟨w.heap.size,3,none⟩) (j0a _) _
  generalize((((w1.setCell ⟨w.heap.size,0,none⟩ (.int .i64 0)).setCell ⟨w.heap.size,1,none⟩ (.int .i64 0)).setCell ⟨w.heap.size,2,none⟩ (.string ⟨#[]⟩)).setCell ⟨w.heap.size,3,none⟩ (.slice none 0 0))=w9 at*;exact bodyPost_ret (v:= .agg #[(.int .i64 0),(.int .i64 0),(.string ⟨#[]⟩),(.slice none 0 0)]) (by simp[results,Tryz.results94,go_sem,z0,z1,z2,z3]) rfl ⟨none,0,rfl,⟨none,0,rfl,j0a _,by unfold maxLen;omega,fun h=>absurd h (Nat.lt_irrefl _)⟩,a5⟩
 ·obtain⟨hp, -,a9⟩:=gD a0 s a1
  rw[a1]at a4;have a7:t.length=L.length:=by rw[←hL,List.length_map]
  have a8:y8 t s<L.length:=by rw[←a7];exact hp
  obtain⟨b,off,rfl,b0,_,a3⟩:=hc (by omega);obtain⟨x,ia,ic,HL,b1,c0,c1,c2,c3,c4⟩:=v9 hI a3 _ a8;have hx:R.at_ t s=x:=by
   rw[a9];have:t[y8 t s]'hp=(L[y8 t s]'a8).1:=by subst hL;simp
   rw[this,HL.out]
  rw[hx];generalize y8 t s=p at*;clear hc hI a0 a1 a3 a9 hx HL c0 a7;go_enter Tryz.func94,Tryz.ntmps94;go_wp2_with fail
  refine a4.mono ?_;rintro e w1 ⟨rfl,a2⟩;have a6:=a2.size;simp only[World.size_alloc]at a6;have hx:∀j u,#[Value.int .i64 0,.int .i64 0,.string ⟨#[]⟩,.slice none 0 0][j]? =some u→w1.cell? ⟨w.heap.size,j,none⟩=some u:=fun j u hu=>by
   rw[a2.cell (p:=⟨w.heap.size,j,none⟩) (by simp),World.cell?_alloc_at _ _ _ _ rfl];exact hu
  have hf:∀j,w1.frozen? ⟨w.heap.size,j,none⟩=false:=fun j=>by
   rw[a2.frozen (p:=⟨w.heap.size,j,none⟩) (by simp),World.frozen?_alloc_at _ _ _ _ rfl]
  have x0:=hx 0 _ rfl;have x1:=hx 1 _ rfl;have x2:=hx 2 _ rfl;have x3:=hx 3 _ rfl;have f0:=hf 0;have f1:=hf 1;have f2:=hf 2;have f3:=hf 3;clear hx hf;have up:∀o u,w.cell? ⟨b,o,none⟩=some u→w1.cell? ⟨b,o,none⟩=some u:=fun o u hu=>by
   rw[a2.cell (p:=⟨b,o,none⟩) (by simp;omega),World.cell?_alloc_past _ _ _ b0];exact hu
  have d1:=up _ _ c1;have d2:=up _ _ c2;have d3:=up _ _ c3;have d4:=up _ _ c4;clear up c1 c2 c3 c4;go_wp2;obtain⟨z0,z1,z2,z3⟩:=vY w1 w.heap.size (.int .i64 (pk x)) (.int .i64 x.n) (.string ⟨x.text.toArray⟩) (.slice ia x.items.length ic) _ _ _ _ x0 x1 x2 x3;have a5:Below w.heap.size w ((((w1.setCell ⟨w.heap.size,0,none⟩ (.int .i64 (pk x))).setCell ⟨w.heap.size,1,none⟩ (.int .i64 x.n)).setCell ⟨w.heap.size,2,none⟩ (.string ⟨x.text.toArray⟩)).setCell ⟨w.heap.size,3,none⟩ (.slice ia x.items.length ic)):=
   ((((((j0g _ _).alloc (j0a _) _).trans (a2.mono (by simp))).setCell (p:=⟨w.heap.size,0,none⟩) (j0a _) _).setCell (p:=⟨w.heap.size,1,none⟩) (j0a _) _).setCell (p:=⟨w.heap.size,2,none⟩) (j0a _) _).setCell (p:=⟨w.heap.size,3,none⟩) (j0a _) _
  generalize((((w1.setCell ⟨w.heap.size,0,none⟩ (.int .i64 (pk x))).setCell ⟨w.heap.size,1,none⟩ (.int .i64 x.n)).setCell ⟨w.heap.size,2,none⟩ (.string ⟨x.text.toArray⟩)).setCell ⟨w.heap.size,3,none⟩ (.slice ia x.items.length ic))=w9 at*;exact bodyPost_ret (v:= .agg #[(.int .i64 (pk x)),(.int .i64 x.n),(.string ⟨x.text.toArray⟩),(.slice ia x.items.length ic)]) (by simp[results,Tryz.results94,go_sem,z0,z1,z2,z3]) rfl ⟨ia,ic,rfl,b1,a5⟩
theorem qE (k:Int)(b c d:Value)(w:World):(Instr.field 137 (.agg #[.int .i64 k,b,c,d]) 0).run Tryz.prog w= .ok (.int .i64 k) w:=by
 simp[Instr.field,go_sem,asAgg]
theorem Us (v:Value)(t:List R.Leaf)(s:List UInt8)(w:World)(M:Nat→Prop)(h:PT w M v t)(hl:t.length≤1000000)(a0:Y4 t):
  Calls Tryz.prog 95 #[v,.string ⟨s.toArray⟩] w fun e w' =>e= .returned (.bool ((pk (R.at_ t s)==0)&&decide (24≤t.length)))∧Below w.heap.size w w' :=by
 have ha:=O0 v t s w M h hl a0;obtain⟨L,hL,⟨a,cap,rfl,hn,hm,hc⟩,hI⟩:=h;have a2:t.length=L.length:=by rw[←hL,List.length_map]
 have a3:=zk a2;unfold maxLen at hm;clear hc hI a0 hL a2;generalize R.at_ t s=x at*;have a5:=qE (pk x)
 cases hk:(pk x==0)
 ·have HK:=zk hk
  go_enter Tryz.func95,Tryz.ntmps95;go_wp2_with fail
  refine ha.mono ?_;rintro e w1 ⟨ia,ic,rfl,a4,a1⟩;go_wp2;go_ret;exact⟨zm (by simp),a1⟩
 ·have HK:=zk hk
  go_enter Tryz.func95,Tryz.ntmps95;go_wp2_with fail
  refine ha.mono ?_;rintro e w1 ⟨ia,ic,rfl,a4,a1⟩;go_wp2;go_ret;exact⟨zm (by rw[a3.out];simp;omega),a1⟩
theorem VX (v:Value)(t:List R.Leaf)(s:List UInt8)(k:Int)(w:World)(M:Nat→Prop)(h:PT w M v t)(hl:t.length≤1000000)(a0:Y4 t):
  Calls Tryz.prog 100 #[v,.string ⟨s.toArray⟩,.int .i64 k] w fun e w' =>e= .returned (.bool ((pk (R.at_ t s) !=0)&&(pk (R.at_ t s) !=k)))∧Below w.heap.size w w' :=by
 have ha:=O0 v t s w M h hl a0;clear h a0;generalize R.at_ t s=x at*
 cases hk:(pk x !=0)
 all_goals
  go_enter Tryz.func100,Tryz.ntmps100;go_wp2_with fail
  refine ha.mono ?_;rintro e w1 ⟨ia,ic,rfl,a2,a1⟩;go_wp2;go_ret;exact⟨zm (by simp),a1.alloc a1.size _⟩
theorem gy (v:Value)(t:List R.Leaf)(s:List UInt8)(w:World)(M:Nat→Prop)(h:PT w M v t)(hg:∀x∈t,x.path.length≤1000)(a6:s.length≤1000):
  Calls Tryz.prog 144 #[v,.string ⟨s.toArray⟩] w fun e w' =>e= .returned (.bool (R.blocked t s))∧Below w.heap.size w w' :=by
 obtain⟨L,rfl,⟨a,cap,rfl,hn,hm,hc⟩,hI⟩:=h;unfold maxLen at hm;go_enter Tryz.func144,Tryz.ntmps144;go_wp2;go_loopw [9] (fun i wr=>∃k:Nat,k≤L.length∧i= .int .i64 k∧(((L.map (·.1)).take k).any fun x=>R.leads x.path s||R.leads s x.path)=false∧Below w.heap.size w wr) (fun i _=>L.length-(intOf i).toNat)
 case atStart=>exact⟨0,Nat.zero_le _,rfl,rfl,j0g _ _⟩
 case round=>
  obtain⟨k,hk,rfl,a2,hb⟩:=hrel;have HA:Hid ((((L.map (·.1)).take k).any fun x=>R.leads x.path s||R.leads s x.path)=false):=a2;clear a2;by_cases a1:k<L.length
  ·obtain⟨b,off,rfl,a3,_,a0⟩:=hc (by omega)
   obtain⟨x,ia,ic,HL,a8,c0,c1,c2,c3,c4⟩:=v9 hI a0 k a1;have HP:Hid ((L.map (·.1))[k]'(by simpa using a1)=x):=by show _=_;simp[HL.out]
   have a7:x.path.length≤1000:=by
    have:=hg _ (j0c (l:=L.map (·.1)) (n:=k) (by simpa using a1));rwa[HP.out]at this
   have e0:=(hb.cell (p:=⟨b,off+k*5,none⟩) a3).trans c0;have e1:=(hb.cell (p:=⟨b,off+k*5+1,none⟩) a3).trans c1;have e2:=(hb.cell (p:=⟨b,off+k*5+2,none⟩) a3).trans c2;have e3:=(hb.cell (p:=⟨b,off+k*5+3,none⟩) a3).trans c3;have e4:=(hb.cell (p:=⟨b,off+k*5+4,none⟩) a3).trans c4;have a4:=hb.size;clear a0 hc hI hg c0 c1 c2 c3 c4;have HB:Hid (∀c,(R.leads x.path s||R.leads s x.path)=c→((fun x:R.Leaf=>R.leads x.path s||R.leads s x.path) ((L.map (·.1))[k]'(by simpa using a1)))=c):=by
    intro c hc;rw[HP.out];exact hc
   go_wp2_with fail
   refine(o7 x.path s _ a7).mono ?_;rintro e w2 ⟨rfl,a5⟩;subst a5;generalize R.leads x.path s=l1 at HB⊢
   cases l1
   ·go_wp2_with fail
    refine(o7 s x.path _ a6).mono ?_;rintro e w2 ⟨rfl,a5⟩;subst a5;generalize R.leads s x.path=l2 at HB⊢
    cases l2
    ·go_wp2
     go_roundw
     case rel=>exact⟨k+1,by omega,by go_num,R.any_snoc _ _ k (by simpa using a1) HA.out (HB.out _ rfl),hb.alloc a4 _⟩
     case measure=>simp[intOf];omega
    ·go_wp2
     go_ret;exact⟨zm (R.any_hit _ _ k (by simpa using a1) (HB.out _ rfl)),hb.alloc a4 _⟩
   ·go_wp2
    go_ret;exact⟨zm (R.any_hit _ _ k (by simpa using a1) (HB.out _ rfl)),hb.alloc a4 _⟩
  ·go_wp2
   go_ret;exact⟨zm (R.any_end _ _ k (by simpa using a1) HA.out),hb⟩
theorem Kg (v:Value)(t:List R.Leaf)(s:List UInt8)(k:Int)(w:World)(M:Nat→Prop)(h:PT w M v t)(hl:t.length≤1000000)(a0:Y4 t)(hg:∀x∈t,x.path.length≤1000)(a3:s.length≤1000):
  Calls Tryz.prog 93 #[v,.string ⟨s.toArray⟩,.int .i64 k] w fun e w' =>e= .returned (.int .i64 (if((pk (R.at_ t s) !=0)&&(pk (R.at_ t s) !=k))=true then 6 else if R.blocked t s=true then 7 else 0))∧Below w.heap.size w w' :=by
 have ha:=VX v t s k w M h hl a0;have hb:=fun W (hW:Below w.heap.size w W)=>gy v t s W M (h.below hW) hg a3
 clear h a0 hg;generalize((pk (R.at_ t s) !=0)&&(pk (R.at_ t s) !=k))=o at*;generalize R.blocked t s=bb at*
 cases o
 ·cases bb
  all_goals
   go_enter Tryz.func93,Tryz.ntmps93;go_wp2_with fail
   refine ha.mono ?_;rintro e w1 ⟨rfl,a1⟩;go_wp2_with fail
   refine(hb _ a1).mono ?_;rintro e w2 ⟨rfl,a2⟩;go_wp2;go_ret;exact⟨rfl,a1.trans (a2.mono a1.size)⟩
 ·go_enter Tryz.func93,Tryz.ntmps93
  go_wp2_with fail
  refine ha.mono ?_;rintro e w1 ⟨rfl,a1⟩;go_wp2;go_ret;exact⟨rfl,a1⟩
theorem o_ (x:R.Leaf)(iv:Value)(s:List UInt8)(w:World)(M:Nat→Prop)(h:It w M (x,iv))(hl:x.items.length≤1000000)(a0:Zh x.items):
  Calls Tryz.prog 101 #[.agg #[.int .i64 (pk x),.int .i64 x.n,.string ⟨x.text.toArray⟩,iv],.string ⟨s.toArray⟩] w fun e w' =>e= .returned (.bool (x.items.any fun y=>y==s))∧Below w.heap.size w w' :=by
 obtain⟨ia,ic,a2,h1,h2,h3⟩:=h;dsimp only at a2 h1 h2 h3;subst a2;have a1:It w M (x,.slice ia x.items.length ic):=⟨ia,ic,rfl,h1,h2,h3⟩
 have a3:=fun W (hW:Below w.heap.size w W)=>xl (.slice ia x.items.length ic) x.items s W M (Rd.below a1 hW) hl a0 (a0.mono s)
 clear h1 h2 h3 a1 a0;go_enter Tryz.func101,Tryz.ntmps101;go_wp2_with fail
 refine(a3 _ ((j0g _ _).alloc (j0a _) _)).mono ?_;rintro e w1 ⟨rfl,a4⟩;subst a4;go_wp2;go_ret;exact⟨rfl,(j0g _ _).alloc (j0a _) _⟩
structure Y8 (w:World):Prop where
 mx:∃m:Int,w.cell? ⟨0,0,none⟩=some (.int .i64 m)
 tab:Lib.TabIs Tryz.prog w "internal/strconv.uint64pow10" .u64 Lib.pow10Tab
 size:6≤w.heap.size
theorem ub:Tryz.prog.globalNamed "internal/strconv.uint64pow10" =some 1:=by kernel_rfl
theorem Y8.kept {w w' :World}{O:Nat→Prop}(h:Y8 w)(hk:zj O w w')(hO:∀b,O b→6≤b):Y8 w' :=by
 have hs:=h.size;refine⟨?_,?_,j0f hs hk.size⟩
 ·obtain⟨m,hm⟩:=h.mx
  exact⟨m,by rw[hk.cell (p:=⟨0,0,none⟩) (by show 0<_;omega) (fun e=>by have:=hO 0 e;omega)];exact hm⟩
 ·have ht:=h.tab
  unfold Lib.TabIs World.var? at ht⊢;rw[ub]at ht⊢;simp only[Option.bind_some]at ht⊢;rw[hk.block 1 (by omega) (fun e=>by have:=hO 1 e;omega)];exact ht
theorem Y8.below {w w' :World}(h:Y8 w)(hb:Below w.heap.size w w'):Y8 w' :=h.kept (O:=fun _=>False) (zj.of_below hb) (fun _ e=>e.elim)
theorem UF (w:World)(q:Nat)(os:Array Obj):Below w.heap.size w (Sort.grow (w.drewN q) os):=
 ⟨rfl,rfl,rfl,by simp[Sort.grow,World.drewN],fun k hk=>by simp[Sort.grow,World.drewN,Array.getElem?_append_left hk]⟩
theorem GW (n:Int)(w:World)(hG:Y8 w)(h0: -9223372036854775808≤n)(h1:n≤9223372036854775807):
  Calls Tryz.prog 141 #[.int .i64 n] w fun e w' =>e= .returned (.string ⟨(Lib.itoa n).toArray⟩)∧Below w.heap.size w w' :=by
 refine(Tryz.strconv_Itoa n h0 h1 w hG.tab).mono ?_;rintro e w' ⟨rfl,k,os,rfl⟩;exact⟨rfl,UF w k os⟩
theorem UY (l:List (List UInt8)):Lib.join l [59]=R.joinI l:=by
 match l with
 |[]=>rfl
 |x::r=>
  rw[Lib.join_cons,R.joinI_eq];congr 1
  clear x;induction r with
  |nil=>rfl
  |cons y r ih=>simp only[Lib.joinTail,List.map_cons,List.flatten_cons]at ih⊢;rw[ih,R.joinF];rfl
theorem GV (l:List (List UInt8))(iv:Value)(w:World)(M:Nat→Prop)(h:Rd w M iv l.length (l.map S))(hl:l.length≤100)(hi:∀i∈l,i.length≤1000):
  Calls Tryz.prog 142 #[iv,.string ⟨[(59:UInt8)].toArray⟩] w fun e w' =>e= .returned (.string ⟨(R.joinI l).toArray⟩)∧Below w.heap.size w w' :=by
 obtain⟨a,cap,rfl,hn,hm,hc⟩:=h;rcases Nat.eq_zero_or_pos l.length with h0|h0
 ·have a3:l=[]:=List.eq_nil_of_length_eq_zero h0
  subst a3;refine(Tryz.strings_Join_none a cap _ w).mono ?_;rintro e w' ⟨rfl,rfl⟩;exact⟨rfl,j0g _ _⟩
 ·obtain⟨b,off,rfl,hb,_,a0⟩:=hc h0
  have a1:(l.map fun x=>(⟨x.toArray⟩:ByteArray)).map (·.data.toList)=l:=by rw[List.map_map];exact(List.map_congr_left (fun x _=>by simp)).trans (List.map_id l)
  have hj:=Tryz.strings_Join b off cap (l.map fun x=>(⟨x.toArray⟩:ByteArray)) ⟨[(59:UInt8)].toArray⟩ w (fun j x hx=>by
   rw[List.getElem?_map]at hx
   cases hq:l[j]? with
   |none=>rw[hq]at hx;simp at hx
   |some y=>
    rw[hq]at hx;simp at hx;subst hx;exact a0 j _ (by rw[List.getElem?_map,hq];rfl)) hb (by rw[List.length_map];omega) (by rw[List.length_map];exact hn) (by
    rw[a1];have:=R.joinI_length l hi;have e:Lib.join l [59]=R.joinI l:=UY l;simp only;rw[e];omega)
  rw[a1,List.length_map]at hj;refine hj.mono ?_;rintro e w' ⟨rfl,a2⟩;exact⟨by simp only;rw[UY l],a2⟩
theorem GD {x:R.Leaf}(h:OkL x):(pk x=1∧R.written x=35::Lib.itoa x.n)∨(pk x=2∧R.written x=61::x.text)∨(pk x=3∧R.written x=42::R.joinI x.items):=by
 unfold pk R.written;rcases h.kind with h|h|h<;>rw[h.1]<;>simp
theorem Ur (x:R.Leaf)(iv:Value)(w:World)(M:Nat→Prop)(h:It w M (x,iv))(a0:OkL x)(hG:Y8 w):
  Calls Tryz.prog 89 #[.agg #[.int .i64 (pk x),.int .i64 x.n,.string ⟨x.text.toArray⟩,iv]] w fun e w' =>e= .returned (.string ⟨(R.written x).toArray⟩)∧Below w.heap.size w w' :=by
 have hI:=fun W (hW:Below w.heap.size w W)=>GW x.n W (hG.below hW) (by have:=a0.lo;omega) (by have:=a0.hi;omega)
 have hJ:=fun W (hW:Below w.heap.size w W)=>GV x.items iv W M (Rd.below h hW) (by have:=a0.many;omega) (fun i hi=>by have:=Zz _ (a0.item i hi).1;omega)
 have a3:=Lib.itoa_length_le x.n (by have:=a0.lo;omega) (by have:=a0.hi;omega);have a6:=Zz _ a0.text;have a4:=R.joinI_length x.items (fun i hi=>by have:=Zz _ (a0.item i hi).1;omega);have a5:=a0.many;obtain⟨ia,ic,a2,_,_,_⟩:=h;dsimp only at a2;subst a2;rcases GD a0 with⟨hp,hw⟩|⟨hp,hw⟩|⟨hp,hw⟩
 ·rw[hp,hw]
  clear hp hw a0 hG hJ;generalize Lib.itoa x.n=d at*;go_enter Tryz.func89,Tryz.ntmps89;go_wp2_with fail
  refine(hI _ ((j0g _ _).alloc (j0a _) _)).mono ?_;rintro e w1 ⟨rfl,a1⟩;go_wp2;go_ret;exact⟨ym (by first|rfl|(simp;done)|(trace_state;fail)),((j0g _ _).alloc (j0a _) _).trans (a1.mono (by simp))⟩
 ·rw[hp,hw]
  clear hp hw a0 hG hJ hI;go_enter Tryz.func89,Tryz.ntmps89;go_wp2;go_ret;exact⟨ym (by first|rfl|(simp;done)|(trace_state;fail)),(j0g _ _).alloc (j0a _) _⟩
 ·rw[hp,hw]
  clear hp hw a0 hG hI;generalize R.joinI x.items=d at*;go_enter Tryz.func89,Tryz.ntmps89;go_wp2_with fail
  refine(hJ _ ((j0g _ _).alloc (j0a _) _)).mono ?_;rintro e w1 ⟨rfl,a1⟩;go_wp2;go_ret;exact⟨ym (by first|rfl|(simp;done)|(trace_state;fail)),((j0g _ _).alloc (j0a _) _).trans (a1.mono (by simp))⟩
theorem BuilderAt.below {T e:TypeId}{B b:Nat}{p:Value}{bs:List Value}{w w' :World}(h:Lib.BuilderAt T e B b p bs w)(hb:Below w.heap.size w w'):Lib.BuilderAt T e B b p bs w' :=by
 have hl:=h.lt;obtain⟨h1,v,h2,h3,h4⟩:=h;exact⟨h1,v,by rw[hb.block b hl];exact h2,zw h3 hb,h4⟩
theorem IsBuilder.below {T e:TypeId}{B b:Nat}{bs:List Value}{w w' :World}(h:Lib.IsBuilder T e B b bs w)(hb:Below w.heap.size w w'):Lib.IsBuilder T e B b bs w' :=by
 rcases h with h|h
 ·exact .inl (BuilderAt.below h hb)
 ·exact .inr (BuilderAt.below h hb)
theorem KC (B b:Nat)(bs:List Value)(s:ByteArray)(w:World)(h:Lib.IsBuilder 134 5 B b bs w)(a0:bs.length+s.size≤140737488355328)(a1:B≤w.heap.size):
  Calls Tryz.prog 88 #[.pointer (some ⟨b,0,none⟩),.string s] w fun e w' =>e= .returned (.tuple #[.int .i64 s.size,.nilIface])∧(Lib.BuilderAt 134 5 B b (.pointer (some ⟨b,0,none⟩)) (bs++Lib.strCells s) w' ∧Below B w w'):=
 Any.Builder_WriteString {Tryz.lays156 with} Tryz.Builder_Extra_156 B b bs s w h a0 a1
theorem ve (v:Value)(t:List R.Leaf)(w:World)(M:Nat→Prop)(h:PT w M v t)(hg:∀x∈t,OkL x)(hl:t.length≤1000)(hG:Y8 w):
  Calls Tryz.prog 50 #[v] w fun e w' =>e= .returned (.string ⟨(R.Written t).toArray⟩)∧Below w.heap.size w w' :=by
 obtain⟨L,rfl,⟨a,cap,rfl,hn,hm,hc⟩,hI⟩:=h;unfold maxLen at hm;rw[List.length_map]at hl;go_enter Tryz.func50,Tryz.ntmps50;go_wp2;go_loopw [8] (fun i wr=>∃(k:Nat) (a0:List UInt8),k≤L.length∧i= .int .i64 k∧a0=R.Written ((L.map (·.1)).take k)∧a0.length≤k*1000000∧Lib.IsBuilder 134 5 w.heap.size w.heap.size (Lib.byteCells a0) wr∧Below w.heap.size w wr) (fun i _=>L.length-(intOf i).toNat)
 case atStart=>exact⟨0,[],Nat.zero_le _,rfl,rfl,by simp,.inl ⟨j0a _,.slice none 0 0,heap_alloc_new w _,World.ownsRow_nil _ _ _ _,by simp[Value.ownBlock]⟩,(j0g _ _).alloc (j0a _) _⟩
 case round=>
  obtain⟨k,a0,hk,rfl,he,b5,b0,hb⟩:=hrel;have HE:Hid (a0=R.Written ((L.map (·.1)).take k)):=he;have a9:Hid (Lib.IsBuilder 134 5 w.heap.size w.heap.size (Lib.byteCells a0) wr):=b0;clear he b0;have a8:=hb.size;by_cases a5:k<L.length
  ·obtain⟨b,off,rfl,a3,_,a1⟩:=hc (by omega)
   obtain⟨x,ia,ic,HL,b3,c0,c1,c2,c3,c4⟩:=v9 hI a1 k a5;have HP:Hid ((L.map (·.1))[k]'(by simpa using a5)=x):=by show _=_;simp[HL.out]
   have a7:OkL x:=by
    have:=hg _ (j0c (l:=L.map (·.1)) (n:=k) (by simpa using a5));rwa[HP.out]at this
   have hp:=a7.good.path;have b4:=qy x a7.good;clear a1 hc hI hg;have e0:=hb.cell (p:=⟨b,off+k*5,none⟩) a3;have e1:=hb.cell (p:=⟨b,off+k*5+1,none⟩) a3;have e2:=hb.cell (p:=⟨b,off+k*5+2,none⟩) a3;have e3:=hb.cell (p:=⟨b,off+k*5+3,none⟩) a3;have e4:=hb.cell (p:=⟨b,off+k*5+4,none⟩) a3;rw[c0]at e0;rw[c1]at e1;rw[c2]at e2;rw[c3]at e3;rw[c4]at e4;have HV:Hid (∀W,Below w.heap.size w W→Calls Tryz.prog 89 #[.agg #[.int .i64 (pk x),.int .i64 x.n,.string ⟨x.text.toArray⟩,.slice ia x.items.length ic]] W fun e w' =>e= .returned (.string ⟨(R.written x).toArray⟩)∧Below W.heap.size W w'):=fun W hW=>Ur x _ W M (Rd.below b3 hW) a7 (hG.below hW)
   clear c0 c1 c2 c3 c4;go_wp2_with fail
   have a6:Hid (Below wr.heap.size wr (wr.alloc (Obj.cells #[.string ⟨x.path.toArray⟩,.int .i64 (pk x),.int .i64 x.n,.string ⟨x.text.toArray⟩,.slice ia x.items.length ic] 139)).drew):=((j0g _ _).alloc (j0a _) _).drew;have b6:(R.line x).length≤1000000:=R.line_length x b4 hp;have q1:¬9223372036854775807<x.path.length+1:=by omega
   have q2:¬9223372036854775807<x.path.length+1+(R.written x).length:=by omega
   have q3:¬9223372036854775807<x.path.length+1+(R.written x).length+1:=by omega
   go_region_with (first
    |(go_at_call 89;refine(HV.out _ (hb.trans (a6.out.mono a8))).mono ?_;rintro e w2 ⟨rfl,a4⟩;have m0:w2.cell? ⟨wr.heap.size,0,none⟩=some (.string ⟨x.path.toArray⟩):=by(rw[a4.cell (p:=⟨wr.heap.size,0,none⟩) (by simp)];simp))
    |(go_at_call 88;go_loud (refine(KC w.heap.size w.heap.size (Lib.byteCells a0) _ _ (IsBuilder.below a9.out (a6.out.trans (a4.mono (by simp)))) (by simp only[Lib.byteCells_length,ByteArray.size_append];simp only[ByteArray.size,List.size_toArray];simp;omega) (by have:=a4.size;simp at this;omega)).mono ?_;rintro e w3 ⟨rfl,a2,b2⟩)))
   all_goals
    go_wp2;go_roundw
    case rel=>
     refine⟨k+1,a0++R.line x,by omega,by go_num,?_,?_,?_,(hb.trans (a6.out.mono a8)).trans ((a4.mono (by simp;omega)).trans b2)⟩
     ·rw[R.Written_snoc _ k (by simpa using a5),HP.out,←HE.out]
     ·rw[List.length_append];omega
     ·rw[yZ [32] #[32] rfl,yZ [10] #[10] rfl,Z9,Z9,Z9,Lib.strCells_eq,←Lib.byteCells_append]at a2
      refine .inr ?_;simpa[R.line]using a2
    case measure=>simp[intOf];omega
  ·go_wp2_with fail
   refine(Tryz.Builder_String_any w.heap.size w.heap.size a0 _ a9.out a8).mono ?_;rintro e w1 ⟨rfl,b1⟩;go_wp2;go_ret;exact⟨ym (by rw[HE.out,List.take_of_length_le (by simp;omega)]),hb.trans b1⟩
def byteOf (n:Int):UInt8:=UInt8.ofNat (n % 256).toNat
theorem q9 (n:Int):((byteOf n).toNat:Int)=n % 256:=by
 unfold byteOf;rw[ZD];have h1:=Int.emod_nonneg n (by decide:(256:Int)≠0);have h2:=Int.emod_lt_of_pos n (by decide:(0:Int)<256);omega
theorem yP (n:Nat):byteOf (n:Int)=UInt8.ofNat n:=by
 apply UInt8.toNat_inj.1;have h1:=q9 (n:Int);have h2:=ZD n;omega
def Ub:Ren:={Tryz.lays156_ren with f:=fun n=>if n=167 then 136 else Tryz.lays156_ren.f n}
theorem Gg:Lays.n167 Tryz.prog Ub:={Tryz.lays156,Tryz.Builder_Extra_156 with f167:=by kernel_rfl}
theorem OF:Ub.t=Tryz.lays156_ren.t:=rfl
theorem gE:Builder.Extra Tryz.prog Ub:=by
 have h:=Tryz.Builder_Extra_156;refine⟨⟨?_,?_⟩,?_,?_,?_,?_,?_,?_,?_,?_⟩<;>rw[OF]
 ·exact h.sizeBuilder
 ·exact h.liesBuilder
 ·exact h.t5
 ·exact h.a5
 ·exact h.z5
 ·exact h.v5
 ·exact h.infoByte
 ·exact h.cellsByte
 ·exact h.sizeByte
 ·exact h.neB5
theorem Uc (w:World)(C:Array Value)(t:TypeId)(hC:C.size≤1000):Rd (w.alloc (.cells C t)) (fun _=>False) (.slice (some ⟨w.heap.size,0,none⟩) C.size C.size) C.size C.toList:=
 ⟨_,C.size,rfl,j0a _,by unfold maxLen;omega,fun _=>⟨w.heap.size,0,rfl,by simp,fun h=>h,fun j u hu=>by
  have:=zE w C t j u hu;have a0:(⟨w.heap.size,0,none⟩:Addr).add j=⟨w.heap.size,0+j,none⟩:=by unfold Addr.add;split<;>simp_all
  rwa[a0]at this⟩⟩
theorem Jw (B b:Nat)(bs:List Value)(c:Int)(w:World)(h:Lib.IsBuilder 134 5 B b bs w)(a0:bs.length+1≤140737488355328)(a1:B≤w.heap.size):
  Calls Tryz.prog 136 #[.pointer (some ⟨b,0,none⟩),.int .u8 c] w fun e w' =>e= .returned .nilIface∧(Lib.BuilderAt 134 5 B b (.pointer (some ⟨b,0,none⟩)) (bs++ [.int .u8 c]) w' ∧Below B w w'):=
 Any.Builder_WriteByte Gg gE B b bs c w h a0 a1
theorem Yi (v:Value)(ns:List Int)(w:World)(M:Nat→Prop)(h:Rd w M v ns.length (ns.map fun n=>Value.int .i64 n))(hl:ns.length≤1000):
  Calls Tryz.prog 86 #[v] w fun e w' =>e= .returned (.string ⟨(ns.map byteOf).toArray⟩)∧Below w.heap.size w w' :=by
 obtain⟨a,cap,rfl,hn,hm,hc⟩:=h;unfold maxLen at hm;go_enter Tryz.func86,Tryz.ntmps86;go_wp2;go_loopw [8] (fun i wr=>∃(k:Nat),k≤ns.length∧i= .int .i64 k∧Lib.IsBuilder 134 5 w.heap.size w.heap.size (Lib.byteCells ((ns.take k).map byteOf)) wr∧Below w.heap.size w wr) (fun i _=>ns.length-(intOf i).toNat)
 case atStart=>exact⟨0,Nat.zero_le _,rfl,.inl ⟨j0a _,.slice none 0 0,heap_alloc_new w _,World.ownsRow_nil _ _ _ _,by simp[Value.ownBlock]⟩,(j0g _ _).alloc (j0a _) _⟩
 case round=>
  obtain⟨k,hk,rfl,a3,hb⟩:=hrel;have a2:Hid (Lib.IsBuilder 134 5 w.heap.size w.heap.size (Lib.byteCells ((ns.take k).map byteOf)) wr):=a3;clear a3;have a5:=hb.size;by_cases a4:k<ns.length
  ·obtain⟨b,off,rfl,a9,_,a0⟩:=hc (by omega)
   have e0:=(hb.cell (p:=⟨b,off+k,none⟩) a9).trans (a0 k (.int .i64 ns[k]) (by simp[a4]));have HT:Hid (Lib.byteCells ((ns.take (k+1)).map byteOf)=Lib.byteCells ((ns.take k).map byteOf)++ [.int .u8 (ns[k] % 256)]):=by
    show _=_;rw[List.take_succ_eq_append_getElem a4,List.map_append,Lib.byteCells_append];congr 1
    simp[Lib.byteCells,q9]
   have b0:((ns.take k).map byteOf).length≤1000:=by simp;omega
   generalize ns[k]=x at*;clear a0 hc;go_wp2_with fail
   refine(Jw w.heap.size w.heap.size _ _ _ a2.out (by rw[Lib.byteCells_length];omega) a5).mono ?_;rintro e w3 ⟨rfl,a1,a8⟩;have a6:=zk a1;clear a1;go_wp2;go_roundw
   case rel=>
    refine⟨k+1,by omega,by go_num,?_,hb.trans a8⟩;rw[HT.out];exact .inr a6.out
   case measure=>simp[intOf];omega
  ·go_wp2_with fail
   refine(Tryz.Builder_String_any w.heap.size w.heap.size _ _ a2.out a5).mono ?_;rintro e w1 ⟨rfl,a7⟩;go_wp2;go_ret;exact⟨ym (by rw[List.take_of_length_le (by rw[List.length_map];omega)]),hb.trans a7⟩
theorem Gr (s:List UInt8)(w:World)(hl:s.length≤1000000000):
  Calls Tryz.prog 109 #[.string ⟨s.toArray⟩] w fun e w' =>e= .returned (.int .i64 (((1+R.sumB s) % 251:Nat):Int))∧w' =w:=by
 have a2:=R.sumB_le s;go_enter Tryz.func109,Tryz.ntmps109;go_wp2;go_loop [3,7] (fun t i=>∃k:Nat,k≤s.length∧i= .int .i64 k∧t= .int .i64 ((1+R.sumB (s.take k):Nat):Int)) (fun _ i=>s.length-(intOf i).toNat)
 case atStart=>exact⟨0,Nat.zero_le _,rfl,rfl⟩
 case round=>
  obtain⟨k,hk,rfl,rfl⟩:=hrel;have a1:=R.sumB_le (s.take k);have a3:(s.take k).length≤s.length:=List.length_take_le' _ _;by_cases a0:k<s.length
  ·have ha:=Zp s k a0 (by simpa[ByteArray.size]using a0)
   have HS:Hid (R.sumB (s.take (k+1))=R.sumB (s.take k)+s[k].toNat):=R.sumB_take s k a0;have h8:s[k].toNat<256:=s[k].toNat_lt;go_wp2;go_round
   case rel=>exact⟨k+1,by omega,by go_num,by rw[HS.out];go_num⟩
   case measure=>simp[intOf];omega
  ·have HT:Hid (s.take k=s):=List.take_of_length_le (by omega)
   rw[HT.out]at*;go_wp2;go_ret;exact⟨zq (by omega),rfl⟩
theorem JU (l:List (List UInt8)):Lib.join l []=l.flatten:=by
 match l with
 |[]=>rfl
 |x::r=>
  rw[Lib.join_cons,List.flatten_cons];congr 1
  clear x;induction r with
  |nil=>rfl
  |cons y r ih=>simp only[Lib.joinTail,List.nil_append,List.map_id']at ih⊢
theorem YD:∀(l:List (List UInt8)),(∀i∈l,i.length≤1000000)→l.flatten.length≤l.length*1000000
 |[],_=>by simp
 |x::r,h=>by
  have:=YD r (fun i hi=>h i (List.mem_cons_of_mem _ hi));have:=h x (List.mem_cons_self ..);simp only[List.flatten_cons,List.length_append,List.length_cons];omega
theorem gZ (l:List (List UInt8))(iv:Value)(w:World)(M:Nat→Prop)(h:Rd w M iv l.length (l.map S))(hl:l.length≤100)(hi:∀i∈l,i.length≤1000000):
  Calls Tryz.prog 142 #[iv,.string ⟨#[]⟩] w fun e w' =>e= .returned (.string ⟨l.flatten.toArray⟩)∧Below w.heap.size w w' :=by
 obtain⟨a,cap,rfl,hn,hm,hc⟩:=h;rcases Nat.eq_zero_or_pos l.length with h0|h0
 ·have a3:l=[]:=List.eq_nil_of_length_eq_zero h0
  subst a3;refine(Tryz.strings_Join_none a cap _ w).mono ?_;rintro e w' ⟨rfl,rfl⟩;exact⟨rfl,j0g _ _⟩
 ·obtain⟨b,off,rfl,hb,_,a0⟩:=hc h0
  have a1:(l.map fun x=>(⟨x.toArray⟩:ByteArray)).map (·.data.toList)=l:=by rw[List.map_map];exact(List.map_congr_left (fun x _=>by simp)).trans (List.map_id l)
  have hj:=Tryz.strings_Join b off cap (l.map fun x=>(⟨x.toArray⟩:ByteArray)) ⟨#[]⟩ w (fun j x hx=>by
   rw[List.getElem?_map]at hx
   cases hq:l[j]? with
   |none=>rw[hq]at hx;simp at hx
   |some y=>
    rw[hq]at hx;simp at hx;subst hx;exact a0 j _ (by rw[List.getElem?_map,hq];rfl)) hb (by rw[List.length_map];omega) (by rw[List.length_map];exact hn) (by
    rw[a1];have:=YD l hi;have e:Lib.join l []=l.flatten:=JU l;simp only;rw[e];omega)
  rw[a1,List.length_map]at hj;refine hj.mono ?_;rintro e w' ⟨rfl,a2⟩;exact⟨by simp only;rw[JU l],a2⟩
theorem ue (c:UInt8)(v:Value)(l:List (List UInt8))(w:World)(M:Nat→Prop)(h:Rd w M v l.length (l.map S))(hl:l.length≤10)(hi:∀i∈l,i.length≤1000000):
  Calls Tryz.prog 107 #[.int .u8 (c.toNat:Int),v] w fun e w' =>e= .returned (.string ⟨(R.record c l.flatten).toArray⟩)∧Below w.heap.size w w' :=by
 have b0:=YD l hi;have hJ:=gZ l v w M h (by omega) hi;have a9:(c.toNat:Int)<256:=by have:=c.toNat_lt;omega
 have HR:Hid (R.record c l.flatten=R.recHead c l.flatten++ [UInt8.ofNat ((1+R.sumB (R.recHead c l.flatten)) % 251)]):=rfl;have HH:Hid (R.recHead c l.flatten=[byteOf (c.toNat:Int),byteOf ((l.flatten.length:Int)/256),byteOf (l.flatten.length:Int)]++l.flatten):=by
  show _=_;have e1:byteOf (c.toNat:Int)=c:=by
   apply UInt8.toNat_inj.1;have:=q9 (c.toNat:Int);omega
  have e2:byteOf ((l.flatten.length:Int)/256)=UInt8.ofNat (l.flatten.length/256):=by
   have:=yP (l.flatten.length/256);simpa using this
  have e3:byteOf (l.flatten.length:Int)=UInt8.ofNat (l.flatten.length % 256):=by
   apply UInt8.toNat_inj.1;have h1:=q9 (l.flatten.length:Int);have h2:=ZD (l.flatten.length % 256);omega
  rw[e1,e2,e3];rfl
 obtain⟨va,vc,rfl⟩:∃va vc,v= .slice va l.length vc:=by obtain⟨a,cap,e,_⟩:=h;exact⟨a,cap,e⟩
 clear h hi;generalize l.flatten=body at*;have b1:(R.recHead c body).length≤100000003:=by rw[HH.out];simp;omega
 go_enter Tryz.func107,Tryz.ntmps107;go_wp2_with fail
 refine hJ.mono ?_;rintro e w1 ⟨rfl,a3⟩;have q0:(body.length:Int)≤100000000:=by omega
 have a1:=Yi (.slice (some ⟨w1.heap.size,0,none⟩) 3 3) [(c.toNat:Int),(body.length:Int)/256,(body.length:Int)] (w1.alloc (.cells #[.int .i64 (c.toNat:Int),.int .i64 ((body.length:Int)/256),.int .i64 (body.length:Int)] 3)) (fun _=>False)
  (Uc w1 #[.int .i64 (c.toNat:Int),.int .i64 ((body.length:Int)/256),.int .i64 (body.length:Int)] 3 (by simp)) (by simp)
 clear hJ;go_wp2_with fail
 refine a1.mono ?_;rintro e w2 ⟨rfl,a6⟩;clear a1;have q2:¬9223372036854775807< [byteOf (c.toNat:Int),byteOf ((body.length:Int)/256),byteOf (body.length:Int)].length+body.length:=by simp;omega
 have a0:Hid (Below w.heap.size w w2):=a3.trans (((j0g _ _).alloc (j0a _) _).trans (a6.mono (by simp))|>.mono a3.size);simp only[List.map_cons,List.map_nil]at*;go_wp2_with fail
 rw[Z9,←HH.out];have a4:=Gr (R.recHead c body) w2 (by omega);have a2:=Yi (.slice (some ⟨w2.heap.size,0,none⟩) 1 1) [(((1+R.sumB (R.recHead c body)) % 251:Nat):Int)] (w2.alloc (.cells #[.int .i64 (((1+R.sumB (R.recHead c body)) % 251:Nat):Int)] 3)) (fun _=>False)
  (Uc w2 #[.int .i64 (((1+R.sumB (R.recHead c body)) % 251:Nat):Int)] 3 (by simp)) (by simp)
 generalize R.recHead c body=s at*;generalize(1+R.sumB s) % 251=ck at*;refine a4.mono ?_;rintro e w3 ⟨rfl,a8⟩;subst a8;clear a4;go_wp2_with fail
 refine a2.mono ?_;rintro e w4 ⟨rfl,a7⟩;simp only[List.map_cons,List.map_nil]at*;have a5:Hid (Below w.heap.size w w4):=a0.out.trans (((j0g _ _).alloc (j0a _) _).trans (a7.mono (by simp))|>.mono a0.out.size);have q4:¬9223372036854775807<s.length+ [byteOf (ck:Int)].length:=by simp;omega
 clear a2;go_wp2;go_ret;exact⟨ym (by rw[HR.out,←yP,←Z9]),a5.out⟩
theorem Jr {P:Program}{ops:Array Oper}{o:Oper}{a:Act}{w:World}{K:Act→World→Prop}{Q:Exit→Act→World→Prop}{E:Prop}(hg:o.guard=none){f:FuncId}{fn:Func}{args:Array Operand}{a0:Array TypeId}(a1:o.op=Op.call {callee:=Callee.value (Operand.func f),args:=args,argTypes:=a0})
  (hf:P.funcs[f]? =some fn)(hn:(fn.name== "runtime.NumGoroutine")=false)(hb:fn.body.isNone=false){vals:Array Value}(hv:args.map a.eval=vals){R:Value→World→Prop}(hC:Calls P f vals w fun e w' =>∃v,e= .returned v∧R v w')(hK:∀v w',R v w' →K (a.put o.dst v) w'):
  if Region.wanted o (yielded ops a.tmps)=true then Oper.wp P o a w K Q else E:=by
 rw[if_pos (by simp[Region.wanted,hg])];unfold Oper.wp;rw[Conc.run_call_body a1 hf hn hb,hv];exact hC.mono fun e w' ⟨v,he,hr⟩=>by subst he;exact hK v w' hr
theorem QH {P:Program}(w:World)(base:Nat)(t u ty e:TypeId)(i:TypeInfo)(ht:P.underlying t=some (.slice e))(hu:P.underlying u=some .string)(hi:P.info? e=some i)(hz:i.zero=some (.int .u8 0))(a0:i.size=1)(a7:i.bytes=1)
  (v:Value)(n:Nat)(xs:List Value)(a1:w.ownsRow base e 1 v n xs)(s:ByteArray)(hs:0<s.size)(a4:n+s.size≤140737488355328){v' :Value}{w' :World}(hr:(Builtin.append_ #[t,u] ty #[v,.string s]).run P w= .ok v' w'):
  ∀g,v'.ownBlock=some g→v.ownBlock=some g∨w.heap.size≤g:=by
 have b1:xs.length=n:=by simpa using a1.1
 rcases a1.2 with⟨rfl,rfl⟩|⟨g,cap,a6,rfl,b2,hg,b4,b3,a9,a8⟩
 ·have h1:=run_append_nil_string (P:=P) w t u ty e i (.int .u8 0) ht hu hi hz s (by omega) (by omega) (by rw[a7];omega)
  rw[h1]at hr;injection hr with hv _
  subst hv;intro g hg;simp[Value.ownBlock]at hg;exact .inr (by omega)
 ·by_cases a3:n+s.size≤cap
  ·have b0 :a6.size=cap:=by simpa using a9
   have h1:=Lib.run_append_room_string (P:=P) w t u ty e i ht hu hi a0 g n cap a6 hg s a3 (by omega);rw[h1]at hr;injection hr with hv _
   subst hv;intro g' a5;exact .inl (by simpa[Value.ownBlock]using a5)
  ·have a2:∀j u,xs[j]? =some u→w.cell? ((⟨g,0,none⟩:Addr).add j)=some u:=a1.cells (g:=g) rfl
   have h1:=Lib.run_append_grow_string (P:=P) w t u ty e i (.int .u8 0) ht hu hi hz ⟨g,0,none⟩ n cap xs (by rw[a0];simpa using b1) a2 s (by omega) (by omega) (by rw[a7];exact growslice_fits (by omega) (by omega));rw[h1]at hr;injection hr with hv _
   subst hv;intro g' a5;simp[Value.ownBlock]at a5;exact .inr (by omega)
theorem Tryz.info5:(Tryz.prog.info? 5).map (fun i=>(i.zero,i.size,i.bytes))=some (some (.int .u8 0),1,1):=by kernel_rfl
theorem R.record_len (c:UInt8)(b:List UInt8):(R.record c b).length=b.length+4:=by simp[R.record,R.recHead]
theorem J3 (B:Nat)(c:UInt8)(ci:Int)(b8:(c.toNat:Int)=ci)(v:Value)(l:List (List UInt8)){w:World}{M O:Nat→Prop}{st:R.St}{bv cv:Value}{LB:List BrP}{b5:List (R.Cm×Value×Value)}(hP:PSx w M O B st bv cv LB b5)(Mr:Nat→Prop)(h:Rd w Mr v l.length (l.map S))(hl:l.length≤10)(hi:∀i∈l,i.length≤1000000)(d7:st.packed.length≤1000000000000):
  Calls Tryz.prog 69 #[.pointer (some ⟨B,0,none⟩),.int .u8 ci,v] w fun e w' =>e= .returned (.tuple #[])∧zR w w' M O B {st with packed:=st.packed++R.record c l.flatten}:=by
 subst b8;have a5:=fun W (hW:Below w.heap.size w W)=>ue c v l W Mr (h.below hW) hl hi
 have d8:(R.record c l.flatten).length≤100000000:=by rw[R.record_len];have:=YD l hi;omega
 obtain⟨va,vc,rfl⟩:∃va vc,v= .slice va l.length vc:=by obtain⟨a,cap,e,_⟩:=h;exact⟨a,cap,e⟩
 obtain⟨pv,a0⟩:=hP.pk;have c2:=a0.c2;have b6:=hP.fr 2;have a4:=hP.lt B hP.own;obtain⟨i0,a9,b0,b1,b2⟩:=info_parts Tryz.info5;obtain⟨pa,pc,a1,_⟩:=za a0.row;have HP:=zk hP;have b4:=zk a0;have d4:=zk a1;have a7:∀W,Below w.heap.size w W→∃a3 n3 k3 w3,(Builtin.append_ #[100,9] 100 #[.slice pa st.packed.length pc,.string ⟨(R.record c l.flatten).toArray⟩]).run Tryz.prog W= .ok (.slice a3 n3 k3) w3∧Hid (w3.ownsRow 0 5 1 (.slice a3 n3 k3) (st.packed++R.record c l.flatten).length (Lib.byteCells (st.packed++R.record c l.flatten)))∧Hid (zj (fun b=>pv.ownBlock=some b) w w3)∧Hid (∀g,(Value.slice a3 n3 k3).ownBlock=some g→pv.ownBlock=some g∨w.heap.size≤g)∧w3.cell? ⟨B,2,none⟩=some (.slice pa st.packed.length pc)∧w3.frozen? ⟨B,2,none⟩=false:=by
  intro W hW;have a2:=zw a0.row hW;obtain⟨v3,w3,h1,h2,h3,h4⟩:=Lib.run_append_own_string (P:=Tryz.prog) W 0 100 9 100 5 i0 Tryz.underlying100 Tryz.underlying9 a9 b0 b1 b2 pv st.packed.length (Lib.byteCells st.packed) a2 ⟨(R.record c l.flatten).toArray⟩ (by simp[ByteArray.size,maxLen];omega) (by simp[ByteArray.size];omega) (Nat.zero_le _);have a6:pv.ownBlock≠some B:=fun e=>(a0.rowO B e).2.1 rfl
  have d5:W.heap.size≤w3.heap.size:=h3.size;have d6:=hW.size;have hK:zj (fun b=>pv.ownBlock=some b) w w3:=⟨h3.os.trans hW.os,h3.tape.trans hW.tape,h3.output.trans hW.output,by omega,fun k hk hn=>by
   rw[h3.block k (by omega) (fun e=>hn e.symm)];exact hW.block k hk⟩
  have b7:=QH (P:=Tryz.prog) W 0 100 9 100 5 i0 Tryz.underlying100 Tryz.underlying9 a9 b0 b1 b2 pv st.packed.length (Lib.byteCells st.packed) a2 ⟨(R.record c l.flatten).toArray⟩ (by simp[ByteArray.size,R.record_len]) (by simp[ByteArray.size];omega) h1;obtain⟨a3,k3,c9,_⟩:=za h2;subst c9;refine⟨a3,_,k3,w3,by rw[←a1];exact h1,?_,hK,?_,?_,?_⟩
  ·show World.ownsRow _ _ _ _ _ _ _
   rw[Lib.strCells_eq,←Lib.byteCells_append]at h2;simpa[ByteArray.size]using h2
  ·intro g hg
   rcases b7 g hg with h|h
   ·exact .inl h
   ·exact .inr (by omega)
  ·rw[hK.cell (p:=⟨B,2,none⟩) a4 a6,c2,a1]
  ·rw[hK.frozen (p:=⟨B,2,none⟩) a4 a6];exact b6
 rw[a1]at c2;have b3:=zk a7;clear hP a0 a1 a7 h hi;generalize R.record c l.flatten=rc at*;generalize st.packed++rc=pk2 at*;go_enter Tryz.func69,Tryz.ntmps69;go_wp2_with fail
 go_region_law (first
  |((refine XP (by rfl) (.tmp 10) (.tmp 13) 100 9 (by rfl) (.slice pa st.packed.length pc) (.string ⟨rc.toArray⟩) (by rfl) (by rfl) (by exact c8) ?_))
  |((refine Jr (R:=fun v w1=>v= .string ⟨rc.toArray⟩∧Below w.heap.size w w1) (by rfl) (by rfl) Tryz.func107 (by rfl) (by rfl) (vals:= #[.int .u8 (c.toNat:Int),.slice va l.length vc]) (by simp[Act.eval,Act.put]) ((a5 _ (j0g _ _).drew).mono fun e w1 ⟨he,hb⟩=>⟨_,he,rfl,((j0g _ _).drew).trans hb⟩) ?_;rintro v0 w1 ⟨rfl,a8⟩;have d2:w1.cell? ⟨B,2,none⟩=some (.slice pa st.packed.length pc):=(a8.cell (p:=⟨B,2,none⟩) a4).trans c2;obtain⟨a3,n3,k3,w3,c8,c7,b9,c6,d3,g3⟩:=b3.out w1 a8)))
 all_goals
  go_end0
  exact⟨rfl,Oy HP.out b4.out b9.out c7.out c6.out⟩
