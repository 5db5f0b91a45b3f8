import Derived.Test.YtolgebdmffcemaaGreatDoorQ20
import Derived.Test.YtolgebdmffcemaaGreatDoorShelf
import Derived.Lib.IndexBytes
import Derived.Lib.SplitLaws
set_option linter.all false
set_option maxHeartbeats 20000000
set_option maxRecDepth 1000000
open Go.Lib renaming compareBytes→wT,indexByte→wW,splitK→wX,index→wY,index_one→wZ,hasPrefix→aA,countB→aD,TabIs→aT,itoa→nY,BuilderAt→D3,IsBuilder→D4,byteCells→rV
open UInt8 renaming lt_irrefl→wU,le_antisymm→mW,not_lt→mX
open Go.Proofs.Tryz renaming prog→rJ,func92→aG,ntmps92→aH,func94→aJ,ntmps94→aK,results94→aN,func95→aP,ntmps95→aQ,func93→aR,ntmps93→aS,func89→aV,ntmps89→aW,func114→aX,ntmps114→aY,func96→aZ,ntmps96→D0,func57→D1,ntmps57→D2
open List renaming length_map→pA,findIdx_eq→wV,getElem_of_mem→sY,any_eq_true→mL,mem_cons→iC,length_cons→mC,length_nil→mS,map_cons→aB,sum_cons→aC,map_map→aE,map_congr_left→wH,getElem?_map→rN,flatMap_cons→nZ,map_append→rP,map_take→rX,map_drop→rY,length_append→mB,length_take→nP,length_drop→nQ,mem_append→nJ,mem_of_mem_take→pE,mem_of_mem_drop→pF,length_set→rT
open Nat renaming zero_le→sQ,zero_add→iX
open Bool renaming eq_false_iff→mM,and_eq_true→mR,true_and→mI
open ByteArray renaming size→aF
open Go.World renaming cell?_alloc_at→aI,size_alloc→aL,frozen?_alloc_at→aM,drewN→aU
namespace Go.Proofs.YtolgebdmffcemaaGreatDoor
open Go.RowKit Go.Shelf
theorem Yg:∀a b:List UInt8,decide (wT a b<0)=Op.bytesLess a b
 |[],[]=>rfl
 |[],_::_=>rfl
 |_::_,[]=>rfl
 |a::x,b::y=>by
  have ih:=Yg x y;rw[wT,Op.bytesLess];by_cases h1:a<b
  ·rw[if_pos h1];simp[h1]
  ·rw[if_neg h1]
   by_cases h2:b<a
   ·rw[if_pos h2]
    have:a≠b:=fun e=>by subst e;exact wU _ h2
    simp[h1,this]
   ·rw[if_neg h2]
    have:a=b:=mW (mX.1 h2) (mX.1 h1);subst this;rw[ih];simp
theorem vT:∀a b:List UInt8,(wT a b==0)=(a==b)
 |[],[]=>rfl
 |[],_::_=>rfl
 |_::_,[]=>rfl
 |a::x,b::y=>by
  have ih:=vT x y;rw[wT];by_cases h1:a<b
  ·have:a≠b:=fun e=>by subst e;exact wU _ h1
   rw[if_pos h1];simp[this]
  ·rw[if_neg h1]
   by_cases h2:b<a
   ·have:a≠b:=fun e=>by subst e;exact wU _ h2
    rw[if_pos h2];simp[this]
   ·rw[if_neg h2]
    have:a=b:=mW (mX.1 h2) (mX.1 h1);subst this;rw[ih];simp
theorem Xv:∀a b:List UInt8, -1≤wT a b∧wT a b≤1
 |[],[]=>by simp[wT]
 |[],_::_=>by simp[wT]
 |_::_,[]=>by simp[wT]
 |a::x,b::y=>by
  have ih:=Xv x y;rw[wT];split
  ·omega
  ·split
   ·omega
   ·exact ih
theorem ur (x:R.Leaf)(ia:Option Addr)(il ic:Nat)(s:List UInt8)(w:World):
  Calls rJ 195 #[.agg #[.string ⟨x.path.toArray⟩,.int .i64 (pk x),.int .i64 x.n,.string ⟨x.text.toArray⟩,.slice ia il ic],.string ⟨s.toArray⟩] w fun e w' =>e= .returned (.int .i64 (wT x.path s))∧Below w.heap.size w w' :=by
 go_enter Tryz.func195,Tryz.ntmps195;go_wp2_with fail
 refine(Tryz.strings_Compare _ _ _).mono ?_;rintro e w1 ⟨rfl,rfl⟩;go_wp2;go_ret;exact⟨rfl,(j0g _ _).alloc (j0a _) _⟩
theorem uX (v:Value)(t:List R.Leaf)(s:List UInt8)(w:World)(M:Nat→Prop)(h:PT w M v t)(hl:t.length≤1000000)(a2:Yj t):
  Calls rJ 194 #[v,.string ⟨s.toArray⟩,.func (.func 195) #[] #[]] w fun e w' =>e= .returned (.tuple #[.int .i64 (y8 t s:Int),.bool (t.any fun x=>x.path==s)])∧Below w.heap.size w w' :=by
 obtain⟨L,hL,⟨a,cap,rfl,hn,hm,hc⟩,hI⟩:=h;have a7:t.length=L.length:=by rw[←hL,pA]
 have HT:Hid (∀(i:Nat) (h:i<L.length) (hb:i<t.length),t[i]'hb=(L[i]'h).1):=by intro i h hb;subst hL;simp
 have a3:Hid (t.length=L.length):=a7;rw[a7]at hl;have a5:=a2.mono s;unfold maxLen at hm;clear a7;go_enter Tryz.func194,Tryz.ntmps194;go_wp2;go_loopw [9,10] (fun i j wr=>∃p q:Nat,p≤q∧q≤L.length∧i= .int .i64 p∧j= .int .i64 q∧(∀k (h:k<t.length),k<p→zF s t[k].path=true)∧(∀k (h:k<t.length),q≤k→zF s t[k].path=false)∧Below w.heap.size w wr) (fun i j _=>(intOf j).toNat-(intOf i).toNat)
 case atStart=>exact⟨0,L.length,sQ _,j0a _,rfl,rfl,fun k _ h=>by omega,fun k h h' =>by rw[a3.out]at h;omega,j0g _ _⟩
 case round=>
  obtain⟨p,q,c7,hq,rfl,rfl,hA,hB,hb⟩:=hrel;have HA:=z9 hA;have HB:=z9 hB;have b4:=z9 a5;have HS:=z9 a2;clear hA hB a5 a2;by_cases b9:p<q
  ·obtain⟨b,off,rfl,a1,_,a0⟩:=hc (by omega)
   obtain⟨h,hh⟩:∃h:Nat,h=(p+q)/2:=⟨_,rfl⟩
   have c6:p≤h:=by omega
   have c8:h<q:=by omega
   have a9:h<L.length:=by omega
   have b8:((p:Int)+(q:Int))/2=(h:Int):=by omega
   obtain⟨x,ia,ic,HL,b7,c0,c1,c2,c3,c4⟩:=qo hI a0 h a9;have HX:Hid (t[h]'(by rw[a3.out];exact a9)=x):=by show _=_;rw[HT.out h a9 _,HL.out]
   have e0:=(hb.cell (p:=⟨b,off+h*5,none⟩) a1).trans c0;have e1:=(hb.cell (p:=⟨b,off+h*5+1,none⟩) a1).trans c1;have e2:=(hb.cell (p:=⟨b,off+h*5+2,none⟩) a1).trans c2;have e3:=(hb.cell (p:=⟨b,off+h*5+3,none⟩) a1).trans c3;have e4:=(hb.cell (p:=⟨b,off+h*5+4,none⟩) a1).trans c4;clear c0 c1 c2 c3 c4 a0 hc hI hh;go_wp2_with fail
   refine(ur x ia x.items.length ic s _).mono ?_;rintro e w1 ⟨rfl,b3⟩;have b1:Below w.heap.size w w1:=hb.trans (b3.mono hb.size);have b6:=Xv x.path s;generalize b2:wT x.path s=c at b6;by_cases b5:c<0
   ·have HC:Hid (zF s x.path=true):=by show _=_;rw[zF,←Yg,b2];simpa using b5
    clear b2;go_wp2;go_roundw
    case rel=>
     refine⟨h+1,q,by omega,by omega,by go_num,rfl,fun k hk h1=>b4.out k h hk (by rw[a3.out];exact a9) (by omega) (by rw[HX.out];exact HC.out),HB.out,b1⟩
    case measure=>simp[intOf];omega
   ·have HC:Hid (zF s x.path=false):=by show _=_;rw[zF,←Yg,b2];simpa using b5
    clear b2;go_wp2;go_roundw
    case rel=>
     refine⟨p,h,by omega,by omega,rfl,rfl,HA.out,fun k hk h1=> ?_,b1⟩;rw[mM];intro h3;have:=b4.out h k (by rw[a3.out];exact a9) hk h1 h3;rw[HX.out,HC.out]at this;cases this
    case measure=>simp[intOf];omega
  ·obtain rfl:p=q:=by omega
   have HP:Hid (y8 t s=p):=by
    show _=_;unfold y8;by_cases a4:p<t.length
    ·rw[wV a4]
     exact⟨by simpa using HB.out p a4 (j0a _),fun j hj=>by simpa using HA.out j (by omega) hj⟩
    ·obtain rfl:p=t.length:=by rw[a3.out]at a4⊢;omega
     refine List.findIdx_eq_length.2 fun y hy=> ?_
     obtain⟨k,hk,rfl⟩:=sY hy;simpa using HA.out k hk hk
   have HN:Hid (∀k (hk:k<t.length),k<p→(t[k].path==s)=false):=by
    intro k hk a6;have:=HA.out k hk a6;rw[mM];intro e;rw[zF,beq_iff_eq.1 e,zm]at this;cases this
   by_cases a4:p<L.length
   ·obtain⟨b,off,rfl,a1,_,a0⟩:=hc (by omega)
    obtain⟨x,ia,ic,HL,b7,c0,c1,c2,c3,c4⟩:=qo hI a0 p a4;have HX:Hid (t[p]'(by rw[a3.out];exact a4)=x):=by show _=_;rw[HT.out p a4 _,HL.out]
    have HY:Hid ((t.any fun y=>y.path==s)=(x.path==s)):=by
     show _=_
     cases he:(x.path==s)
     ·rw[mM]
      intro h;obtain⟨y,hy,a8⟩:=mL.1 h;obtain⟨k,hk,rfl⟩:=sY hy;rcases Nat.lt_trichotomy k p with a6|a6|a6
      ·have:=HN.out k hk a6;rw[a8]at this;cases this
      ·subst a6;rw[HX.out,he]at a8;cases a8
      ·have h1:=HS.out p k (by rw[a3.out];exact a4) hk a6
       have h2:=HB.out p (by rw[a3.out];exact a4) (j0a _);rw[beq_iff_eq.1 a8]at h1;rw[zF,h1]at h2;cases h2
     ·exact mL.2 ⟨t[p]'(by rw[a3.out];exact a4),j0c _,by rw[HX.out];exact he⟩
    have e0:=(hb.cell (p:=⟨b,off+p*5,none⟩) a1).trans c0;have e1:=(hb.cell (p:=⟨b,off+p*5+1,none⟩) a1).trans c1;have e2:=(hb.cell (p:=⟨b,off+p*5+2,none⟩) a1).trans c2;have e3:=(hb.cell (p:=⟨b,off+p*5+3,none⟩) a1).trans c3;have e4:=(hb.cell (p:=⟨b,off+p*5+4,none⟩) a1).trans c4;clear c0 c1 c2 c3 c4 a0 hc hI;go_wp2_with fail
    refine(ur x ia x.items.length ic s _).mono ?_;rintro e w1 ⟨rfl,b3⟩;have b1:Below w.heap.size w w1:=hb.trans (b3.mono hb.size);have HQ:=z9 (vT x.path s);generalize wT x.path s=c at HQ;go_wp2;go_ret2;exact⟨vt (by rw[HP.out]) (by rw[HY.out,HQ.out]),b1⟩
   ·have HY:Hid ((t.any fun y=>y.path==s)=false):=by
     show _=_;rw[mM];intro h;obtain⟨y,hy,a8⟩:=mL.1 h;obtain⟨k,hk,rfl⟩:=sY hy;have:=HN.out k hk (by rw[a3.out]at hk;omega);rw[a8]at this;cases this
    go_wp2;go_ret2;exact⟨vt (by rw[HP.out]) HY.out,hb⟩
theorem Ux (v:Value)(t:List R.Leaf)(s:List UInt8)(w:World)(M:Nat→Prop)(h:PT w M v t)(hl:t.length≤1000000)(a0:Yj t):
  Calls rJ 145 #[v,.string ⟨s.toArray⟩] w fun e w' =>e= .returned (.tuple #[.int .i64 (y8 t s:Int),.bool (t.any fun x=>x.path==s)])∧Below w.heap.size w w' :=by
 go_enter Tryz.func145,Tryz.ntmps145;go_wp2_with fail
 refine(uX v t s _ M h hl a0).mono ?_;rintro e w1 ⟨rfl,a1⟩;go_wp2;go_ret2;exact⟨rfl,a1⟩
theorem qz (c:UInt8):∀s:List UInt8,(wW s c= -1∧∀x∈s,x≠c)∨∃a r,s=a++c::r∧(∀x∈a,x≠c)∧wW s c=(a.length:Int)
 |[]=> .inl ⟨rfl,by simp⟩
 |b::l=>by
  by_cases hb:b=c
  ·exact .inr ⟨[],l,by rw[hb];rfl,by simp,by rw[wW,if_pos (by simpa using hb)];rfl⟩
  ·rcases qz c l with⟨h1,h2⟩|⟨a,r,h1,h2,h3⟩
   ·refine .inl ⟨by rw[wW,if_neg (by simpa using hb),if_pos (by simpa using h1)],fun x hx=> ?_⟩
    rcases iC.1 hx with rfl|hx
    ·exact hb
    ·exact h2 x hx
   ·refine .inr ⟨b::a,r,by rw[h1];rfl,fun x hx=> ?_,?_⟩
    ·rcases iC.1 hx with rfl|hx
     ·exact hb
     ·exact h2 x hx
    ·rw[wW,if_neg (by simpa using hb),if_neg (by rw[h3];simp),h3];simp
theorem Fz:∀(n:Nat) (s:List UInt8),s.length≤n→wX [47] 0 (Lib.count s [47]) s=R.spl s
 |n,s,hn=>by
  rcases qz 47 s with⟨h1,h2⟩|⟨a,r,h1,h2,h3⟩
  ·have hi:wY s [47]= -1:=by rw[wZ,h1]
   rw[Lib.count_miss hi,R.spl_plain s h2];rfl
  ·have hi:wY s [47]=(a.length:Int):=by rw[wZ,h3]
   cases n with
   |zero=>rw[h1]at hn;simp at hn
   |succ n=>
    have hd:s.drop (a.length+1)=r:=by rw[h1];simp
    have ht:s.take a.length=a:=by rw[h1];simp
    have ih:=Fz n r (by rw[h1]at hn;simp at hn;omega);rw[Lib.count_hit (by simp) hi];simp only[mC,mS,iX];rw[hd,Nat.add_comm,wX,if_neg (by rw[hi];simp),hi];simp only[Int.toNat_natCast,Nat.add_zero,mC,mS,iX];rw[hd,ht,ih];conv=>rhs;rw[h1,R.spl_cut a r h2]
theorem KL (a b:List UInt8):aA b (a++ [47])=R.leads a b:=by
 rw[Bool.eq_iff_iff];unfold aA R.leads;rw[List.isPrefixOf_iff_prefix];constructor
 ·rintro⟨t,rfl⟩
  simp
 ·intro h
  simp only[mR,decide_eq_true_eq,beq_iff_eq]at h;obtain⟨h1,h2,h3⟩:=h;refine⟨b.drop (a.length+1),?_⟩;rw[j0d h1]at h3;have h4:b[a.length]=47:=by simpa using h3
  conv=>rhs;rw[←List.take_append_drop a.length b,h2,List.drop_eq_getElem_cons h1,h4]
  simp
theorem GF (s t:List UInt8)(w:World)(_hs:s.length≤1000):
  Calls rJ 193 #[.string ⟨s.toArray⟩,.string ⟨t.toArray⟩] w fun e w' =>e= .returned (.bool (R.leads s t))∧w' =w:=by
 go_enter Tryz.func193,Tryz.ntmps193;go_wp2_with fail
 refine(Tryz.strings_HasPrefix _ _ _).mono ?_;rintro e w1 ⟨rfl,rfl⟩;go_wp2;go_ret;exact⟨zA (by rw[←KL]),rfl⟩
theorem JQ:∀(l:List UInt8),l.length+1=((R.spl l).map fun p=>p.length+1).sum
 |[]=>by simp[R.spl]
 |c::r=>by
  have ih:=JQ r;rw[R.spl];split
  ·simp only[aB,aC,mS,mC];omega
  ·split
   ·rename_i e;rw[e]at ih;simp at ih
   ·rename_i h t e
    rw[e]at ih;simp only[aB,aC,mC]at ih⊢;omega
theorem Kh:∀(L:List (List UInt8)),L.all R.isName=true→(L.map fun p=>p.length+1).sum≤L.length*9
 |[],_=>by simp
 |p::t,h=>by
  simp only[List.all_cons,mR]at h;have h1:=Kh t h.2;have h2:p.length≤8:=by have:=h.1;simp[R.isName]at this;exact this.2.2
  simp only[aB,aC,mC];omega
theorem Cp (l:List UInt8)(h:(R.spl l).all R.isName=true):l.length+1≤(R.spl l).length*9:=by
 rw[JQ l];exact Kh _ h
theorem Ur (s:List UInt8)(h:R.isPath s=true):s.length≤35:=by
 simp only[R.isPath,mR,decide_eq_true_eq]at h;have:=Cp s h.2.1;omega
theorem qN (s:List UInt8):(Lib.splitB ⟨[(47:UInt8)].toArray⟩ 0 (aD ⟨s.toArray⟩ ⟨[(47:UInt8)].toArray⟩) ⟨s.toArray⟩).map Value.string=(R.spl s).map S:=by
 have h:=Lib.splitB_data ⟨[(47:UInt8)].toArray⟩ 0 (aD ⟨s.toArray⟩ ⟨[(47:UInt8)].toArray⟩) ⟨s.toArray⟩;rw[show(wX (⟨[(47:UInt8)].toArray⟩:ByteArray).data.toList 0 (aD ⟨s.toArray⟩ ⟨[(47:UInt8)].toArray⟩) (⟨s.toArray⟩:ByteArray).data.toList)=R.spl s from Fz s.length s (j0a _)]at h;rw[←h,aE];apply wH;intro x _;simp[S]
theorem G7 (s:List UInt8):aD ⟨s.toArray⟩ ⟨[(47:UInt8)].toArray⟩+1=(R.spl s).length:=by
 have h1:=Lib.splitB_all ⟨[(47:UInt8)].toArray⟩ (by simp[aF]) 0 _ ⟨s.toArray⟩ rfl;have h2:=congrArg List.length (qN s);rw[pA,pA]at h2;omega
theorem Oi (s:List UInt8)(w:World)(hs:s.length≤maxLen)(mx:Int)(a4:w.cell? ⟨0,0,none⟩=some (.int .i64 mx)):
  Calls rJ 92 #[.string ⟨s.toArray⟩] w fun e w' =>e= .returned (.bool (R.isPath s))∧Below w.heap.size w w' :=by
 unfold maxLen at hs;by_cases a5:35<s.length
 ·go_enter aG,aH
  go_wp2;go_ret;exact⟨zA (by rw[mM];intro h;have:=Ur s h;omega),j0g _ _⟩
 have a1:=Tryz.strings_Split ⟨s.toArray⟩ ⟨[(47:UInt8)].toArray⟩ mx w (by simp[aF];omega) a4 (by simp[aF]);rw[qN,G7]at a1;have HP:Hid (R.isPath s=((R.spl s).all R.isName&&decide ((R.spl s).length≤4))):=by
  show _=_;rw[R.isPath,decide_eq_true (by omega),mI]
 have HM:Hid (∀p∈R.spl s,p.length≤1000):=fun p hp=>by have:=R.spl_mem s p hp;omega
 have a7:=(R.spl_length s).1;generalize R.spl s=x at*;go_enter aG,aH;go_wp2_with fail
 refine a1.mono ?_;rintro e w1 ⟨rfl,a2⟩;have a0:Below w.heap.size w w1:=by rw[a2];exact(j0g _ _).alloc (j0a _) _
 have a3:∀j u,(x.map S)[j]? =some u→w1.cell? ⟨w.heap.size,j,none⟩=some u:=fun j u hu=>by
  rw[a2,aI _ _ _ _ rfl];simpa using hu
 clear a2 a1;by_cases h4:4<x.length
 ·go_wp2
  go_ret;exact⟨zA (by rw[HP.out,decide_eq_false (by omega),Bool.and_false]),a0⟩
 go_wp2;go_loop [16] (fun i=>∃k:Nat,k≤x.length∧i= .int .i64 k∧(x.take k).all R.isName=true) (fun i=>x.length-(intOf i).toNat)
 case atStart=>exact⟨0,sQ _,rfl,rfl⟩
 case round=>
  obtain⟨k,a6,rfl,he⟩:=hrel;have HE:Hid ((x.take k).all R.isName=true):=he;clear he;by_cases hx:k<x.length
  ·have a8:w1.cell? ⟨w.heap.size,k,none⟩=some (.string ⟨x[k].toArray⟩):=a3 k _ (by simp[S,hx])
   clear a3;go_wp2_with fail
   refine(Oj _ _ (by have:=HM.out x[k] (j0c hx);simp[aF,maxLen];omega)).mono ?_;rintro e w2 ⟨rfl,rfl⟩
   cases hr:R.isName x[k]
   ·have HR:Hid (R.isName x[k]=false):=hr
    clear hr;go_wp2;go_ret;exact⟨zA (by rw[HP.out,R.all_bad x _ k hx HR.out];rfl),a0⟩
   ·have HR:Hid (R.isName x[k]=true):=hr
    clear hr;go_wp2;go_round
    case rel=>exact⟨k+1,by omega,by go_num,R.all_snoc x _ k hx HE.out HR.out⟩
    case measure=>simp[intOf];omega
  ·go_wp2
   go_ret;exact⟨zA (by rw[HP.out,R.all_end x _ k hx HE.out,mI];exact decide_eq_true (by omega)),a0⟩
theorem cO {t:List R.Leaf}(hs:Yj t)(s:List UInt8)(h:(t.any fun x=>x.path==s)=true):∃hp:y8 t s<t.length,(t[y8 t s]'hp).path=s∧R.at_ t s=t[y8 t s]'hp:=by
 obtain⟨y,hy,a1⟩:=mL.1 h;obtain⟨k,hk,rfl⟩:=sY hy;have a0:t[k].path=s:=by simpa using a1
 have hp:y8 t s=k:=by
  unfold y8;rw[wV hk];refine⟨by simp[zF,a0,zm],fun j hj=> ?_⟩;have:=hs j k (by omega) hk hj;rw[a0]at this;simp[zF,this]
 have ha:((t.take k).any fun x=>x.path==s)=false:=by
  rw[mM];intro h;obtain⟨z,hz,a2⟩:=mL.1 h;obtain⟨j,hj,rfl⟩:=List.mem_take_iff_getElem.1 hz;have:=hs j k (by omega) hk (by omega);rw[beq_iff_eq.1 a2,a0,zm]at this;cases this
 refine⟨by rw[hp];exact hk,?_,?_⟩
 ·simp only[hp];exact a0
 ·simp only[hp];exact cQ hk ha a1
theorem Fg {t:List R.Leaf}(s:List UInt8)(h:(t.any fun x=>x.path==s)=false):R.at_ t s=R.none s:=
 find_none (k:=t.length) (by omega) (by rw[List.take_length];exact h)
def PV (x:R.Leaf)(iv:Value):Value:= .agg #[.int .i64 (pk x),.int .i64 x.n,.string ⟨x.text.toArray⟩,iv]
theorem Qc (w:World)(W:Nat)(a b c d p q r s:Value)(h0:w.cell? ⟨W,0,none⟩=some p)(h1:w.cell? ⟨W,1,none⟩=some q)(h2:w.cell? ⟨W,2,none⟩=some r)(h3:w.cell? ⟨W,3,none⟩=some s):
  ((((w.setCell ⟨W,0,none⟩ a).setCell ⟨W,1,none⟩ b).setCell ⟨W,2,none⟩ c).setCell ⟨W,3,none⟩ d).cell? ⟨W,0,none⟩=some a∧((((w.setCell ⟨W,0,none⟩ a).setCell ⟨W,1,none⟩ b).setCell ⟨W,2,none⟩ c).setCell ⟨W,3,none⟩ d).cell? ⟨W,1,none⟩=some b∧
  ((((w.setCell ⟨W,0,none⟩ a).setCell ⟨W,1,none⟩ b).setCell ⟨W,2,none⟩ c).setCell ⟨W,3,none⟩ d).cell? ⟨W,2,none⟩=some c∧((((w.setCell ⟨W,0,none⟩ a).setCell ⟨W,1,none⟩ b).setCell ⟨W,2,none⟩ c).setCell ⟨W,3,none⟩ d).cell? ⟨W,3,none⟩=some d:=by
 refine⟨?_,?_,?_,?_⟩
 ·rw[zL _ _ _ _ _ (by omega),zL _ _ _ _ _ (by omega),zL _ _ _ _ _ (by omega)];exact Ya _ _ _ _ _ h0
 ·rw[zL _ _ _ _ _ (by omega),zL _ _ _ _ _ (by omega)];exact Ya _ _ _ _ q (by rw[zL _ _ _ _ _ (by omega)];exact h1)
 ·rw[zL _ _ _ _ _ (by omega)];exact Ya _ _ _ _ r (by rw[zL _ _ _ _ _ (by omega),zL _ _ _ _ _ (by omega)];exact h2)
 ·exact Ya _ _ _ _ s (by rw[zL _ _ _ _ _ (by omega),zL _ _ _ _ _ (by omega),zL _ _ _ _ _ (by omega)];exact h3)
theorem UB (v:Value)(t:List R.Leaf)(s:List UInt8)(w:World)(M:Nat→Prop)(h:PT w M v t)(hl:t.length≤1000000)(a0:Yj t):
  Calls rJ 94 #[v,.string ⟨s.toArray⟩] w fun e w' =>∃ia ic,e= .returned (.agg #[.int .i64 (pk (R.at_ t s)),.int .i64 (R.at_ t s).n,.string ⟨(R.at_ t s).text.toArray⟩,.slice ia (R.at_ t s).items.length ic])∧It w M (R.at_ t s,.slice ia (R.at_ t s).items.length ic)∧Below w.heap.size w w' :=by
 have a4:=Ux v t s (w.alloc (.cells #[.int .i64 0,.int .i64 0,.string ⟨#[]⟩,.slice none 0 0] 137)) M (h.below ((j0g _ _).alloc (j0a _) _)) hl a0;obtain⟨L,hL,⟨a,cap,rfl,hn,hm,hc⟩,hI⟩:=h;unfold maxLen at hm
 cases a1:(t.any fun x=>x.path==s)
 ·have e0:=Fg s a1
  rw[a1]at a4;rw[e0];generalize y8 t s=p at a4;clear hc hI a0 e0 a1;go_enter aJ,aK;go_wp2_with fail
  refine a4.mono ?_;rintro e w1 ⟨rfl,a2⟩;have a6:=a2.size;simp only[aL]at a6;have hx:∀j u,#[Value.int .i64 0,.int .i64 0,.string ⟨#[]⟩,.slice none 0 0][j]? =some u→w1.cell? ⟨w.heap.size,j,none⟩=some u:=fun j u hu=>by
   rw[a2.cell (p:=⟨w.heap.size,j,none⟩) (by simp),aI _ _ _ _ rfl];exact hu
  have hf:∀j,w1.frozen? ⟨w.heap.size,j,none⟩=false:=fun j=>by
   rw[a2.frozen (p:=⟨w.heap.size,j,none⟩) (by simp),aM _ _ _ _ rfl]
  have x0:=hx 0 _ rfl;have x1:=hx 1 _ rfl;have x2:=hx 2 _ rfl;have x3:=hx 3 _ rfl;have f0:=hf 0;have f1:=hf 1;have f2:=hf 2;have f3:=hf 3;clear hx hf;go_wp2;obtain⟨z0,z1,z2,z3⟩:=Qc w1 w.heap.size (.int .i64 0) (.int .i64 0) (.string ⟨#[]⟩) (.slice none 0 0) _ _ _ _ x0 x1 x2 x3;have a5:Below w.heap.size w ((((w1.setCell ⟨w.heap.size,0,none⟩ (.int .i64 0)).setCell ⟨w.heap.size,1,none⟩ (.int .i64 0)).setCell ⟨w.heap.size,2,none⟩ (.string ⟨#[]⟩)).setCell ⟨w.heap.size,3,none⟩ (.slice none 0 0)):=
   ((((((j0g _ _).alloc (j0a _) _).trans (a2.mono (by simp))).setCell (p:=⟨w.heap.size,0,none⟩) (j0a _) _).setCell (p:=⟨w.heap.size,1,none⟩) (j0a _) _).setCell (p:=⟨w.heap.size,2,none⟩) (j0a _) _).setCell (p:=⟨w.heap.size,3,none⟩) (j0a _) _
  generalize((((w1.setCell ⟨w.heap.size,0,none⟩ (.int .i64 0)).setCell ⟨w.heap.size,1,none⟩ (.int .i64 0)).setCell ⟨w.heap.size,2,none⟩ (.string ⟨#[]⟩)).setCell ⟨w.heap.size,3,none⟩ (.slice none 0 0))=w9 at*;exact bodyPost_ret (v:= .agg #[(.int .i64 0),(.int .i64 0),(.string ⟨#[]⟩),(.slice none 0 0)]) (by simp[results,aN,go_sem,z0,z1,z2,z3]) rfl ⟨none,0,rfl,⟨none,0,rfl,j0a _,by unfold maxLen;omega,fun h=>absurd h (Nat.lt_irrefl _)⟩,a5⟩
 ·obtain⟨hp, -,a9⟩:=cO a0 s a1
  rw[a1]at a4;have a7:t.length=L.length:=by rw[←hL,pA]
  have a8:y8 t s<L.length:=by rw[←a7];exact hp
  obtain⟨b,off,rfl,b1,_,a3⟩:=hc (by omega);obtain⟨x,ia,ic,HL,b2,c0,c1,c2,c3,c4⟩:=qo hI a3 _ a8;have hx:R.at_ t s=x:=by
   rw[a9];have:t[y8 t s]'hp=(L[y8 t s]'a8).1:=by subst hL;simp
   rw[this,HL.out]
  rw[hx];generalize y8 t s=p at*;clear hc hI a0 a1 a3 a9 hx HL c0 a7;go_enter aJ,aK;go_wp2_with fail
  refine a4.mono ?_;rintro e w1 ⟨rfl,a2⟩;have a6:=a2.size;simp only[aL]at a6;have hx:∀j u,#[Value.int .i64 0,.int .i64 0,.string ⟨#[]⟩,.slice none 0 0][j]? =some u→w1.cell? ⟨w.heap.size,j,none⟩=some u:=fun j u hu=>by
   rw[a2.cell (p:=⟨w.heap.size,j,none⟩) (by simp),aI _ _ _ _ rfl];exact hu
  have hf:∀j,w1.frozen? ⟨w.heap.size,j,none⟩=false:=fun j=>by
   rw[a2.frozen (p:=⟨w.heap.size,j,none⟩) (by simp),aM _ _ _ _ rfl]
  have x0:=hx 0 _ rfl;have x1:=hx 1 _ rfl;have x2:=hx 2 _ rfl;have x3:=hx 3 _ rfl;have f0:=hf 0;have f1:=hf 1;have f2:=hf 2;have f3:=hf 3;clear hx hf;have up:∀o u,w.cell? ⟨b,o,none⟩=some u→w1.cell? ⟨b,o,none⟩=some u:=fun o u hu=>by
   rw[a2.cell (p:=⟨b,o,none⟩) (by simp;omega),World.cell?_alloc_past _ _ _ b1];exact hu
  have d1:=up _ _ c1;have d2:=up _ _ c2;have d3:=up _ _ c3;have d4:=up _ _ c4;clear up c1 c2 c3 c4;go_wp2;obtain⟨z0,z1,z2,z3⟩:=Qc w1 w.heap.size (.int .i64 (pk x)) (.int .i64 x.n) (.string ⟨x.text.toArray⟩) (.slice ia x.items.length ic) _ _ _ _ x0 x1 x2 x3;have a5:Below w.heap.size w ((((w1.setCell ⟨w.heap.size,0,none⟩ (.int .i64 (pk x))).setCell ⟨w.heap.size,1,none⟩ (.int .i64 x.n)).setCell ⟨w.heap.size,2,none⟩ (.string ⟨x.text.toArray⟩)).setCell ⟨w.heap.size,3,none⟩ (.slice ia x.items.length ic)):=
   ((((((j0g _ _).alloc (j0a _) _).trans (a2.mono (by simp))).setCell (p:=⟨w.heap.size,0,none⟩) (j0a _) _).setCell (p:=⟨w.heap.size,1,none⟩) (j0a _) _).setCell (p:=⟨w.heap.size,2,none⟩) (j0a _) _).setCell (p:=⟨w.heap.size,3,none⟩) (j0a _) _
  generalize((((w1.setCell ⟨w.heap.size,0,none⟩ (.int .i64 (pk x))).setCell ⟨w.heap.size,1,none⟩ (.int .i64 x.n)).setCell ⟨w.heap.size,2,none⟩ (.string ⟨x.text.toArray⟩)).setCell ⟨w.heap.size,3,none⟩ (.slice ia x.items.length ic))=w9 at*;exact bodyPost_ret (v:= .agg #[(.int .i64 (pk x)),(.int .i64 x.n),(.string ⟨x.text.toArray⟩),(.slice ia x.items.length ic)]) (by simp[results,aN,go_sem,z0,z1,z2,z3]) rfl ⟨ia,ic,rfl,b2,a5⟩
theorem qS (k:Int)(b c d:Value)(w:World):(Instr.field 137 (.agg #[.int .i64 k,b,c,d]) 0).run rJ w= .ok (.int .i64 k) w:=by
 simp[Instr.field,go_sem,asAgg]
theorem G2 (v:Value)(t:List R.Leaf)(s:List UInt8)(w:World)(M:Nat→Prop)(h:PT w M v t)(hl:t.length≤1000000)(a0:Yj t):
  Calls rJ 95 #[v,.string ⟨s.toArray⟩] w fun e w' =>e= .returned (.bool ((pk (R.at_ t s)==0)&&decide (24≤t.length)))∧Below w.heap.size w w' :=by
 have ha:=UB v t s w M h hl a0;obtain⟨L,hL,⟨a,cap,rfl,hn,hm,hc⟩,hI⟩:=h;have a2:t.length=L.length:=by rw[←hL,pA]
 have a3:=z9 a2;unfold maxLen at hm;clear hc hI a0 hL a2;generalize R.at_ t s=x at*;have a5:=qS (pk x)
 cases hk:(pk x==0)
 ·have HK:=z9 hk
  go_enter aP,aQ;go_wp2_with fail
  refine ha.mono ?_;rintro e w1 ⟨ia,ic,rfl,a4,a1⟩;go_wp2;go_ret;exact⟨zA (by simp),a1⟩
 ·have HK:=z9 hk
  go_enter aP,aQ;go_wp2_with fail
  refine ha.mono ?_;rintro e w1 ⟨ia,ic,rfl,a4,a1⟩;go_wp2;go_ret;exact⟨zA (by rw[a3.out];simp;omega),a1⟩
theorem Kq (v:Value)(t:List R.Leaf)(s:List UInt8)(k:Int)(w:World)(M:Nat→Prop)(h:PT w M v t)(hl:t.length≤1000000)(a0:Yj t):
  Calls rJ 100 #[v,.string ⟨s.toArray⟩,.int .i64 k] w fun e w' =>e= .returned (.bool ((pk (R.at_ t s) !=0)&&(pk (R.at_ t s) !=k)))∧Below w.heap.size w w' :=by
 have ha:=UB v t s w M h hl a0;clear h a0;generalize R.at_ t s=x at*
 cases hk:(pk x !=0)
 all_goals
  go_enter Tryz.func100,Tryz.ntmps100;go_wp2_with fail
  refine ha.mono ?_;rintro e w1 ⟨ia,ic,rfl,a2,a1⟩;go_wp2;go_ret;exact⟨zA (by simp),a1.alloc a1.size _⟩
theorem Om (v:Value)(t:List R.Leaf)(s:List UInt8)(w:World)(M:Nat→Prop)(h:PT w M v t)(hg:∀x∈t,x.path.length≤1000)(a6:s.length≤1000):
  Calls rJ 144 #[v,.string ⟨s.toArray⟩] w fun e w' =>e= .returned (.bool (R.blocked t s))∧Below w.heap.size w w' :=by
 obtain⟨L,rfl,⟨a,cap,rfl,hn,hm,hc⟩,hI⟩:=h;unfold maxLen at hm;go_enter Tryz.func144,Tryz.ntmps144;go_wp2;go_loopw [9] (fun i wr=>∃k:Nat,k≤L.length∧i= .int .i64 k∧(((L.map (·.1)).take k).any fun x=>R.leads x.path s||R.leads s x.path)=false∧Below w.heap.size w wr) (fun i _=>L.length-(intOf i).toNat)
 case atStart=>exact⟨0,sQ _,rfl,rfl,j0g _ _⟩
 case round=>
  obtain⟨k,hk,rfl,a2,hb⟩:=hrel;have HA:Hid ((((L.map (·.1)).take k).any fun x=>R.leads x.path s||R.leads s x.path)=false):=a2;clear a2;by_cases a1:k<L.length
  ·obtain⟨b,off,rfl,a3,_,a0⟩:=hc (by omega)
   obtain⟨x,ia,ic,HL,a8,c0,c1,c2,c3,c4⟩:=qo hI a0 k a1;have HP:Hid ((L.map (·.1))[k]'(by simpa using a1)=x):=by show _=_;simp[HL.out]
   have a7:x.path.length≤1000:=by
    have:=hg _ (j0c (l:=L.map (·.1)) (n:=k) (by simpa using a1));rwa[HP.out]at this
   have e0:=(hb.cell (p:=⟨b,off+k*5,none⟩) a3).trans c0;have e1:=(hb.cell (p:=⟨b,off+k*5+1,none⟩) a3).trans c1;have e2:=(hb.cell (p:=⟨b,off+k*5+2,none⟩) a3).trans c2;have e3:=(hb.cell (p:=⟨b,off+k*5+3,none⟩) a3).trans c3;have e4:=(hb.cell (p:=⟨b,off+k*5+4,none⟩) a3).trans c4;have a4:=hb.size;clear a0 hc hI hg c0 c1 c2 c3 c4;have HB:Hid (∀c,(R.leads x.path s||R.leads s x.path)=c→((fun x:R.Leaf=>R.leads x.path s||R.leads s x.path) ((L.map (·.1))[k]'(by simpa using a1)))=c):=by
    intro c hc;rw[HP.out];exact hc
   go_wp2_with fail
   refine(GF x.path s _ a7).mono ?_;rintro e w2 ⟨rfl,a5⟩;subst a5;generalize R.leads x.path s=l1 at HB⊢
   cases l1
   ·go_wp2_with fail
    refine(GF s x.path _ a6).mono ?_;rintro e w2 ⟨rfl,a5⟩;subst a5;generalize R.leads s x.path=l2 at HB⊢
    cases l2
    ·go_wp2
     go_roundw
     case rel=>exact⟨k+1,by omega,by go_num,R.any_snoc _ _ k (by simpa using a1) HA.out (HB.out _ rfl),hb.alloc a4 _⟩
     case measure=>simp[intOf];omega
    ·go_wp2
     go_ret;exact⟨zA (R.any_hit _ _ k (by simpa using a1) (HB.out _ rfl)),hb.alloc a4 _⟩
   ·go_wp2
    go_ret;exact⟨zA (R.any_hit _ _ k (by simpa using a1) (HB.out _ rfl)),hb.alloc a4 _⟩
  ·go_wp2
   go_ret;exact⟨zA (R.any_end _ _ k (by simpa using a1) HA.out),hb⟩
theorem J5 (v:Value)(t:List R.Leaf)(s:List UInt8)(k:Int)(w:World)(M:Nat→Prop)(h:PT w M v t)(hl:t.length≤1000000)(a0:Yj t)(hg:∀x∈t,x.path.length≤1000)(a3:s.length≤1000):
  Calls rJ 93 #[v,.string ⟨s.toArray⟩,.int .i64 k] w fun e w' =>e= .returned (.int .i64 (if((pk (R.at_ t s) !=0)&&(pk (R.at_ t s) !=k))=true then 6 else if R.blocked t s=true then 7 else 0))∧Below w.heap.size w w' :=by
 have ha:=Kq v t s k w M h hl a0;have hb:=fun W (hW:Below w.heap.size w W)=>Om v t s W M (h.below hW) hg a3
 clear h a0 hg;generalize((pk (R.at_ t s) !=0)&&(pk (R.at_ t s) !=k))=o at*;generalize R.blocked t s=bb at*
 cases o
 ·cases bb
  all_goals
   go_enter aR,aS;go_wp2_with fail
   refine ha.mono ?_;rintro e w1 ⟨rfl,a1⟩;go_wp2_with fail
   refine(hb _ a1).mono ?_;rintro e w2 ⟨rfl,a2⟩;go_wp2;go_ret;exact⟨rfl,a1.trans (a2.mono a1.size)⟩
 ·go_enter aR,aS
  go_wp2_with fail
  refine ha.mono ?_;rintro e w1 ⟨rfl,a1⟩;go_wp2;go_ret;exact⟨rfl,a1⟩
theorem QD (x:R.Leaf)(iv:Value)(s:List UInt8)(w:World)(M:Nat→Prop)(h:It w M (x,iv))(hl:x.items.length≤1000000)(a0:Zb x.items):
  Calls rJ 101 #[.agg #[.int .i64 (pk x),.int .i64 x.n,.string ⟨x.text.toArray⟩,iv],.string ⟨s.toArray⟩] w fun e w' =>e= .returned (.bool (x.items.any fun y=>y==s))∧Below w.heap.size w w' :=by
 obtain⟨ia,ic,a2,h1,h2,h3⟩:=h;dsimp only at a2 h1 h2 h3;subst a2;have a1:It w M (x,.slice ia x.items.length ic):=⟨ia,ic,rfl,h1,h2,h3⟩
 have a3:=fun W (hW:Below w.heap.size w W)=>Yb (.slice ia x.items.length ic) x.items s W M (Rd.below a1 hW) hl a0 (a0.mono s)
 clear h1 h2 h3 a1 a0;go_enter Tryz.func101,Tryz.ntmps101;go_wp2_with fail
 refine(a3 _ ((j0g _ _).alloc (j0a _) _)).mono ?_;rintro e w1 ⟨rfl,a4⟩;subst a4;go_wp2;go_ret;exact⟨rfl,(j0g _ _).alloc (j0a _) _⟩
structure Zy (w:World):Prop where
 mx:∃m:Int,w.cell? ⟨0,0,none⟩=some (.int .i64 m)
 tab:aT rJ w "internal/strconv.uint64pow10" .u64 Lib.pow10Tab
 size:6≤w.heap.size
theorem O9:Tryz.prog.globalNamed "internal/strconv.uint64pow10" =some 1:=by kernel_rfl
theorem Zy.kept {w w' :World}{O:Nat→Prop}(h:Zy w)(hk:ze O w w')(hO:∀b,O b→6≤b):Zy w' :=by
 have hs:=h.size;refine⟨?_,?_,j0f hs hk.size⟩
 ·obtain⟨m,hm⟩:=h.mx
  exact⟨m,by rw[hk.cell (p:=⟨0,0,none⟩) (by show 0<_;omega) (fun e=>by have:=hO 0 e;omega)];exact hm⟩
 ·have ht:=h.tab
  unfold aT World.var? at ht⊢;rw[O9]at ht⊢;simp only[Option.bind_some]at ht⊢;rw[hk.block 1 (by omega) (fun e=>by have:=hO 1 e;omega)];exact ht
theorem Zy.below {w w' :World}(h:Zy w)(hb:Below w.heap.size w w'):Zy w' :=h.kept (O:=fun _=>False) (ze.of_below hb) (fun _ e=>e.elim)
theorem Gd (w:World)(q:Nat)(os:Array Obj):Below w.heap.size w (Sort.grow (w.drewN q) os):=
 ⟨rfl,rfl,rfl,by simp[Sort.grow,aU],fun k hk=>by simp[Sort.grow,aU,Array.getElem?_append_left hk]⟩
theorem B5 (n:Int)(w:World)(hG:Zy w)(h0: -9223372036854775808≤n)(h1:n≤9223372036854775807):
  Calls rJ 141 #[.int .i64 n] w fun e w' =>e= .returned (.string ⟨(nY n).toArray⟩)∧Below w.heap.size w w' :=by
 refine(Tryz.strconv_Itoa n h0 h1 w hG.tab).mono ?_;rintro e w' ⟨rfl,k,os,rfl⟩;exact⟨rfl,Gd w k os⟩
theorem GB (l:List (List UInt8)):Lib.join l [59]=R.joinI l:=by
 match l with
 |[]=>rfl
 |x::r=>
  rw[Lib.join_cons,R.joinI_eq];congr 1
  clear x;induction r with
  |nil=>rfl
  |cons y r ih=>simp only[Lib.joinTail,aB,List.flatten_cons]at ih⊢;rw[ih,R.joinF];rfl
theorem B0 (l:List (List UInt8))(iv:Value)(w:World)(M:Nat→Prop)(h:Rd w M iv l.length (l.map S))(hl:l.length≤100)(hi:∀i∈l,i.length≤1000):
  Calls rJ 142 #[iv,.string ⟨[(59:UInt8)].toArray⟩] w fun e w' =>e= .returned (.string ⟨(R.joinI l).toArray⟩)∧Below w.heap.size w w' :=by
 obtain⟨a,cap,rfl,hn,hm,hc⟩:=h;rcases Nat.eq_zero_or_pos l.length with h0|h0
 ·have a3:l=[]:=List.eq_nil_of_length_eq_zero h0
  subst a3;refine(Tryz.strings_Join_none a cap _ w).mono ?_;rintro e w' ⟨rfl,rfl⟩;exact⟨rfl,j0g _ _⟩
 ·obtain⟨b,off,rfl,hb,_,a0⟩:=hc h0
  have a1:(l.map fun x=>(⟨x.toArray⟩:ByteArray)).map (·.data.toList)=l:=by rw[aE];exact(wH (fun x _=>by simp)).trans (List.map_id l)
  have hj:=Tryz.strings_Join b off cap (l.map fun x=>(⟨x.toArray⟩:ByteArray)) ⟨[(59:UInt8)].toArray⟩ w (fun j x hx=>by
   rw[rN]at hx
   cases hq:l[j]? with
   |none=>rw[hq]at hx;simp at hx
   |some y=>
    rw[hq]at hx;simp at hx;subst hx;exact a0 j _ (by rw[rN,hq];rfl)) hb (by rw[pA];omega) (by rw[pA];exact hn) (by
    rw[a1];have:=R.joinI_length l hi;have e:Lib.join l [59]=R.joinI l:=GB l;simp only;rw[e];omega)
  rw[a1,pA]at hj;refine hj.mono ?_;rintro e w' ⟨rfl,a2⟩;exact⟨by simp only;rw[GB l],a2⟩
theorem bC {x:R.Leaf}(h:OkL x):(pk x=1∧R.written x=35::nY x.n)∨(pk x=2∧R.written x=61::x.text)∨(pk x=3∧R.written x=42::R.joinI x.items):=by
 unfold pk R.written;rcases h.kind with h|h|h<;>rw[h.1]<;>simp
theorem gZ (x:R.Leaf)(iv:Value)(w:World)(M:Nat→Prop)(h:It w M (x,iv))(a0:OkL x)(hG:Zy w):
  Calls rJ 89 #[.agg #[.int .i64 (pk x),.int .i64 x.n,.string ⟨x.text.toArray⟩,iv]] w fun e w' =>e= .returned (.string ⟨(R.written x).toArray⟩)∧Below w.heap.size w w' :=by
 have hI:=fun W (hW:Below w.heap.size w W)=>B5 x.n W (hG.below hW) (by have:=a0.lo;omega) (by have:=a0.hi;omega)
 have hJ:=fun W (hW:Below w.heap.size w W)=>B0 x.items iv W M (Rd.below h hW) (by have:=a0.many;omega) (fun i hi=>by have:=Zr _ (a0.item i hi).1;omega)
 have a3:=Lib.itoa_length_le x.n (by have:=a0.lo;omega) (by have:=a0.hi;omega);have a6:=Zr _ a0.text;have a4:=R.joinI_length x.items (fun i hi=>by have:=Zr _ (a0.item i hi).1;omega);have a5:=a0.many;obtain⟨ia,ic,a2,_,_,_⟩:=h;dsimp only at a2;subst a2;rcases bC a0 with⟨hp,hw⟩|⟨hp,hw⟩|⟨hp,hw⟩
 ·rw[hp,hw]
  clear hp hw a0 hG hJ;generalize nY x.n=d at*;go_enter aV,aW;go_wp2_with fail
  refine(hI _ ((j0g _ _).alloc (j0a _) _)).mono ?_;rintro e w1 ⟨rfl,a1⟩;go_wp2;go_ret;exact⟨YI (by first|rfl|(simp;done)|(trace_state;fail)),((j0g _ _).alloc (j0a _) _).trans (a1.mono (by simp))⟩
 ·rw[hp,hw]
  clear hp hw a0 hG hJ hI;go_enter aV,aW;go_wp2;go_ret;exact⟨YI (by first|rfl|(simp;done)|(trace_state;fail)),(j0g _ _).alloc (j0a _) _⟩
 ·rw[hp,hw]
  clear hp hw a0 hG hI;generalize R.joinI x.items=d at*;go_enter aV,aW;go_wp2_with fail
  refine(hJ _ ((j0g _ _).alloc (j0a _) _)).mono ?_;rintro e w1 ⟨rfl,a1⟩;go_wp2;go_ret;exact⟨YI (by first|rfl|(simp;done)|(trace_state;fail)),((j0g _ _).alloc (j0a _) _).trans (a1.mono (by simp))⟩
theorem vi (a b:List (R.Leaf×Value)):zG (a++b)=zG a++zG b:=by simp[zG]
theorem Qj:∀(L:List (R.Leaf×Value)) (k:Nat),zG (L.take k)=(zG L).take (k*5)
 |[],k=>by simp[zG]
 |p::r,0=>by simp[zG]
 |p::r,k+1=>by
  have ih:=Qj r k;unfold zG PC at ih⊢;rw[List.take_succ_cons,nZ,ih,nZ,show(k+1)*5=k*5+5 from by omega];simp
theorem Qk:∀(L:List (R.Leaf×Value)) (k:Nat),zG (L.drop k)=(zG L).drop (k*5)
 |[],k=>by simp[zG]
 |p::r,0=>by simp
 |p::r,k+1=>by
  have ih:=Qk r k;unfold zG PC at ih⊢;rw[List.drop_succ_cons,ih,nZ,show(k+1)*5=k*5+5 from by omega];simp
theorem Jh:∀(L:List (R.Leaf×Value)) (i:Nat) (h:i<L.length) (y:R.Leaf) (iv:Value),(L[i]'h).1.path=y.path→
  zG (L.set i (y,iv))=((((zG L).set (i*5+1) (.int .i64 (pk y))).set (i*5+2) (.int .i64 y.n)).set (i*5+3) (.string ⟨y.text.toArray⟩)).set (i*5+4) iv
 |p::r,0,_,y,iv,he=>by simp at he;simp[zG,PC,he]
 |p::r,i+1,h,y,iv,he=>by
  have ih:=Jh r i (by simpa using h) y iv (by simpa using he);unfold zG at ih⊢;simp only[List.set_cons_succ,nZ];rw[ih,show(i+1)*5+1=(i*5+1)+5 from by omega,show(i+1)*5+2=(i*5+2)+5 from by omega,show(i+1)*5+3=(i*5+3)+5 from by omega,show(i+1)*5+4=(i*5+4)+5 from by omega];simp[PC]
theorem uq (v:Value)(t:List R.Leaf)(s:List UInt8)(w:World)(M:Nat→Prop)(hM:∀b,M b→b<w.heap.size)(h:PT w M v t)(a1:OkT t)(hs:R.isPath s=true):
  Calls rJ 114 #[v,.string ⟨s.toArray⟩] w fun e w' =>∃v',e= .returned v' ∧PT w' M v' (R.set t (R.none s))∧Below w.heap.size w w' :=by
 have a8:=a1.few;have a3:=Ux v t s w M h (by omega) a1.sort;have a4:=fun W (hW:Below w.heap.size w W)=>Ka v t W M (h.below hW) (by omega)
 cases a0:(t.any fun x=>x.path==s)
 ·rw[a0]at a3
  rw[set_same a1 (R.none s) hs rfl a0];have HT:=z9 h;clear a4 a1 h;go_enter aX,aY;go_wp2_with fail
  refine a3.mono ?_;rintro e w1 ⟨rfl,a2⟩;go_wp2;go_ret;exact⟨_,rfl,HT.out.below a2,a2⟩
 ·rw[a0]at a3
  have HS:Hid (R.set t (R.none s)=t.take (y8 t s)++t.drop (y8 t s+1)):=Cq a1 (R.none s) hs rfl a0;have b6:y8 t s<t.length:=(YQ (k:=R.Leaf.path) a1.sort.k a0).1;clear a1 h;generalize y8 t s=p at*;go_enter aX,aY;go_wp2_with fail
  refine a3.mono ?_;rintro e w1 ⟨rfl,a2⟩;go_wp2_with fail
  refine(a4 _ a2).mono ?_;rintro e w2 ⟨L,v2,hL,rfl,ho,hI,a7⟩;have b5:L.length=t.length:=by rw[←hL,pA]
  have hD:=FJ dA v2 L.length p w1.heap.size (zG L) w2 ho (by omega) (vV L hI);have HO:=z9 ho;have b3:=a2.size;have b4:=a7.size;clear ho a4;go_wp2_with fail
  refine hD.mono ?_;rintro e w3 ⟨v3,rfl,b1,a9,_⟩;have a6:Below w1.heap.size w1 w3:=a7.grown a9 b4 (fun k hk=>(HO.out.lt k hk).1);go_wp2;go_ret;refine⟨v3,rfl,⟨L.take p++L.drop (p+1),?_,?_,?_⟩,a2.trans (a6.mono b3)⟩
  ·rw[HS.out,←hL,rP,rX,rY]
  ·have a5:(L.take p++L.drop (p+1)).length=L.length-1:=by simp only[mB,nP,nQ];omega
   rw[a5,vi,Qj,Qk];exact Rd.of_owns b1 (fun b hb=>by have:=hM b hb;omega)
  ·intro q hq
   have b2 :q∈L:=by
    rcases nJ.1 hq with h|h
    ·exact pE h
    ·exact pF h
   exact Rd.below (hI q b2) a6
theorem Uu (tv:Value)(t:List R.Leaf)(y:R.Leaf)(iv:Value)(w:World)(M:Nat→Prop)(hM:∀b,M b→b<w.heap.size)(h:PT w M tv t)(a5:OkT t)(hs:R.isPath y.path=true)(hy:It w M (y,iv))(d9:y.kind=0∨OkL y)(d8:y.kind=0→pk y=0):
  Calls rJ 96 #[tv,.string ⟨y.path.toArray⟩,.agg #[.int .i64 (pk y),.int .i64 y.n,.string ⟨y.text.toArray⟩,iv]] w fun e w' =>∃v',e= .returned v' ∧PT w' M v' (R.set t y)∧Below w.heap.size w w' :=by
 have f9:=a5.few;obtain⟨ia,ic,f0,_,_,_⟩:=id hy;dsimp only at f0;subst f0;by_cases a8:y.kind=0
 ·have c9:R.set t y=R.set t (R.none y.path):=by
   rw[qQ a5 y hs a8,qQ a5 (R.none y.path) hs rfl];rfl
  have g7:=fun W (hW:Below w.heap.size w W)=>uq tv t y.path W M (fun b hb=>by have:=hM b hb;have:=hW.size;omega) (h.below hW) a5 hs
  rw[c9,d8 a8];clear a5 h c9 hy d9 d8 a8;go_enter aZ,D0;go_wp2_with fail
  refine(g7 _ ((j0g _ _).alloc (j0a _) _)).mono ?_;rintro e w1 ⟨v1,rfl,g4,a0⟩;go_wp2;go_ret;exact⟨v1,rfl,g4,((j0g _ _).alloc (j0a _) _).trans (a0.mono (by simp))⟩
 ·have b5:OkL y:=d9.resolve_left a8
  have i0:(pk y==0)=false:=by rcases bC b5 with h|h|h<;>rw[h.1]<;>rfl
  have b7:=fun W (hW:Below w.heap.size w W)=>Ux tv t y.path W M (h.below hW) (by omega) a5.sort
  have d5:=fun W (hW:Below w.heap.size w W)=>Ka tv t W M (h.below hW) (by omega)
  have HY:=z9 hy
  cases a1:(t.any fun x=>x.path==y.path)
  ·rw[a1]at b7
   have HS:Hid (R.set t y=t.take (y8 t y.path)++y::t.drop (y8 t y.path)):=jr a5 y hs a8 a1;have b6:y8 t y.path≤t.length:=List.findIdx_le_length;clear a5 h hy d9 d8 b5 a8;generalize y8 t y.path=p at*;go_enter aZ,D0;go_wp2_with fail
   refine(b7 _ ((j0g _ _).alloc (j0a _) _)).mono ?_;rintro e w1 ⟨rfl,a0⟩;have a4:Below w.heap.size w w1:=((j0g _ _).alloc (j0a _) _).trans (a0.mono (by simp));have b0:w1.cell? ⟨w.heap.size,0,none⟩=some (.int .i64 (pk y)):=by rw[a0.cell (p:=⟨w.heap.size,0,none⟩) (by simp)];simp
   have b1:w1.cell? ⟨w.heap.size,1,none⟩=some (.int .i64 y.n):=by rw[a0.cell (p:=⟨w.heap.size,1,none⟩) (by simp)];simp
   have b2:w1.cell? ⟨w.heap.size,2,none⟩=some (.string ⟨y.text.toArray⟩):=by rw[a0.cell (p:=⟨w.heap.size,2,none⟩) (by simp)];simp
   have b3:w1.cell? ⟨w.heap.size,3,none⟩=some (.slice ia y.items.length ic):=by rw[a0.cell (p:=⟨w.heap.size,3,none⟩) (by simp)];simp
   have a6:w.heap.size+1≤w1.heap.size:=by have:=a0.size;simpa using this
   clear a0;go_wp2_with fail
   refine(d5 _ a4).mono ?_;rintro e w2 ⟨L,v2,hL,rfl,ho,hI,a3⟩;have c6:L.length=t.length:=by rw[←hL,pA]
   have f5:=a3.size;have d0:=(a3.cell (p:=⟨w.heap.size,0,none⟩) a6).trans b0;have d1:=(a3.cell (p:=⟨w.heap.size,1,none⟩) a6).trans b1;have d2:=(a3.cell (p:=⟨w.heap.size,2,none⟩) a6).trans b2;have d3:=(a3.cell (p:=⟨w.heap.size,3,none⟩) a6).trans b3;have HO:=z9 ho;have HL:=z9 hL;have b8:=z9 hI;have f6:Hid (Below w.heap.size w w2):=a4.trans (a3.mono a4.size);have e8:Hid (p≤L.length):=by rw[c6];exact b6
   have e7:=fun W (hW:Below w2.heap.size w2 W) vb (g6:W.heap[vb]? =some (.cells #[.string ⟨y.path.toArray⟩,.int .i64 (pk y),.int .i64 y.n,.string ⟨y.text.toArray⟩,.slice ia y.items.length ic] 139 (0,0))) (g2:v2.ownBlock≠some vb)=>Gl dx v2 L.length p vb w1.heap.size (zG L) #[.string ⟨y.path.toArray⟩,.int .i64 (pk y),.int .i64 y.n,.string ⟨y.text.toArray⟩,.slice ia y.items.length ic] W (Zm HO.out hW) (by have:=hW.size;omega) e8.out (by omega) g6 rfl g2 (vV L b8.out) (by
    intro u hu;simp only[iC,List.not_mem_nil,or_false]at hu;rcases hu with rfl|rfl|rfl|rfl|rfl<;>rfl)
   clear b0 b1 b2 b3 ho hI hL d5 b7 a1;go_wp2_with fail
   refine(e7 _ ((j0g _ _).alloc (j0a _) _) w2.heap.size (heap_alloc_new w2 _) (fun e=>by have:=(HO.out.lt _ e).2;omega)).mono ?_;rintro e w3 ⟨v3,rfl,g3,g0,_⟩;have d4:Below w1.heap.size w1 w3:=(a3.alloc f5 _).grown g0 (by simp;omega) (fun k hk=>(HO.out.lt k hk).1);go_wp2;go_ret;refine⟨v3,rfl,⟨L.take p++(y,.slice ia y.items.length ic)::L.drop p,?_,?_,?_⟩,a4.trans (d4.mono (by omega))⟩
   ·rw[HS.out,←HL.out,rP,rX,aB,rY]
   ·have e9:(L.take p++(y,Value.slice ia y.items.length ic)::L.drop p).length=L.length+1:=by have:=e8.out;simp only[mB,nP,mC,nQ];omega
    rw[e9];have f8:zG (L.take p++(y,Value.slice ia y.items.length ic)::L.drop p)=(zG L).take (p*5)++((#[Value.string ⟨y.path.toArray⟩,.int .i64 (pk y),.int .i64 y.n,.string ⟨y.text.toArray⟩,.slice ia y.items.length ic]).toList++(zG L).drop (p*5)):=by
     rw[vi,Qj,←Qk];simp[zG,PC]
    rw[f8];exact Rd.of_owns g3 (fun b hb=>by have:=hM b hb;omega)
   ·intro q hq
    rcases nJ.1 hq with h|h
    ·exact Rd.below (b8.out q (pE h)) d4
    ·rcases iC.1 h with rfl|h
     ·exact Rd.below HY.out (a4.trans (d4.mono (by omega)))
     ·exact Rd.below (b8.out q (pF h)) d4
  ·rw[a1]at b7
   have HS:Hid (R.set t y=t.take (y8 t y.path)++y::t.drop (y8 t y.path+1)):=uU a5 y hs a8 a1;obtain⟨b6,a9⟩:=YQ (k:=R.Leaf.path) a5.sort.k a1;change y8 t y.path<t.length at b6
   have b9:Hid (∀h:y8 t y.path<t.length,(t[y8 t y.path]'h).path=y.path):=fun _=>a9
   clear a5 h hy d9 d8 b5 a8 a9;generalize y8 t y.path=p at*;go_enter aZ,D0;go_wp2_with fail
   refine(b7 _ ((j0g _ _).alloc (j0a _) _)).mono ?_;rintro e w1 ⟨rfl,a0⟩;have a4:Below w.heap.size w w1:=((j0g _ _).alloc (j0a _) _).trans (a0.mono (by simp));have b0:w1.cell? ⟨w.heap.size,0,none⟩=some (.int .i64 (pk y)):=by rw[a0.cell (p:=⟨w.heap.size,0,none⟩) (by simp)];simp
   have b1:w1.cell? ⟨w.heap.size,1,none⟩=some (.int .i64 y.n):=by rw[a0.cell (p:=⟨w.heap.size,1,none⟩) (by simp)];simp
   have b2:w1.cell? ⟨w.heap.size,2,none⟩=some (.string ⟨y.text.toArray⟩):=by rw[a0.cell (p:=⟨w.heap.size,2,none⟩) (by simp)];simp
   have b3:w1.cell? ⟨w.heap.size,3,none⟩=some (.slice ia y.items.length ic):=by rw[a0.cell (p:=⟨w.heap.size,3,none⟩) (by simp)];simp
   have a6:w.heap.size+1≤w1.heap.size:=by have:=a0.size;simpa using this
   clear a0;go_wp2_with fail
   refine(d5 _ a4).mono ?_;rintro e w2 ⟨L,v2,hL,rfl,ho,hI,a3⟩;have c6:L.length=t.length:=by rw[←hL,pA]
   have f5:=a3.size;have d0:=(a3.cell (p:=⟨w.heap.size,0,none⟩) a6).trans b0;have d1:=(a3.cell (p:=⟨w.heap.size,1,none⟩) a6).trans b1;have d2:=(a3.cell (p:=⟨w.heap.size,2,none⟩) a6).trans b2;have d3:=(a3.cell (p:=⟨w.heap.size,3,none⟩) a6).trans b3;have HO:=z9 ho;have HL:=z9 hL;have b8:=z9 hI;have f6:Hid (Below w.heap.size w w2):=a4.trans (a3.mono a4.size);have e8:Hid (p≤L.length):=by rw[c6];exact Nat.le_of_lt b6
   have d7:p<L.length:=by rw[c6];exact b6
   obtain⟨a2,c2,rfl,h0,g1,c8,b4⟩:=zl ho
   cases a2 with
   |none=>have:=(c8 rfl).1;omega
   |some ad=>
    obtain⟨g,rfl,d6,g9,c7,a7⟩:=b4 ad rfl;obtain⟨e0,e1,e2,e3,e4⟩:=bE (off:=0) (by simpa using a7) p d7;simp only[iX]at e0 e1 e2 e3 e4;have f1:=c7 (p*5+1);have f2:=c7 (p*5+2);have f3:=c7 (p*5+3);have f4:=c7 (p*5+4);unfold maxLen at g1;clear b0 b1 b2 b3 ho hI hL d5 b7 a1 a7 c7 b4 c8;have g8:=vh L;have o1:=Xh HO.out (p*5+1) (by omega) (.int .i64 (pk y));have o2:=Xh o1 (p*5+2) (by rw[rT];omega) (.int .i64 y.n);have o3:=Xh o2 (p*5+3) (by rw[rT,rT];omega) (.string ⟨y.text.toArray⟩);have o4:=Xh o3 (p*5+4) (by rw[rT,rT,rT];omega) (.slice ia y.items.length ic);have g5:(L[p]'d7).1.path=y.path:=by
     have:=b9.out b6;simp only[←HL.out,List.getElem_map]at this;exact this
    rw[←Jh L p d7 y (.slice ia y.items.length ic) g5]at o4;have f7:=z9 o4;have e6:Hid (Below w1.heap.size w1 ((((w2.setCell ⟨g,p*5+1,none⟩ (.int .i64 (pk y))).setCell ⟨g,p*5+2,none⟩ (.int .i64 y.n)).setCell ⟨g,p*5+3,none⟩ (.string ⟨y.text.toArray⟩)).setCell ⟨g,p*5+4,none⟩ (.slice ia y.items.length ic))):=
     (((a3.setCell (p:=⟨g,p*5+1,none⟩) d6 _).setCell (p:=⟨g,p*5+2,none⟩) d6 _).setCell (p:=⟨g,p*5+3,none⟩) d6 _).setCell (p:=⟨g,p*5+4,none⟩) d6 _
    clear o1 o2 o3 o4 g8;go_wp2;go_ret;refine⟨_,rfl,⟨L.set p (y,.slice ia y.items.length ic),?_,?_,?_⟩,a4.trans (e6.out.mono (by omega))⟩
    ·rw[HS.out,←HL.out,List.map_set,List.set_eq_take_append_cons_drop,if_pos (by simpa using d7)]
    ·rw[rT,←c6]
     exact Rd.of_owns f7.out (fun b hb=>by have:=hM b hb;omega)
    ·intro q hq
     rcases List.mem_or_eq_of_mem_set hq with h|rfl
     ·exact Rd.below (b8.out q h) e6.out
     ·exact Rd.below HY.out (a4.trans (e6.out.mono (by omega)))
theorem KB (b n c d:Value)(w:World):(Instr.field 137 (.agg #[b,n,c,d]) 1).run rJ w= .ok n w:=by
 simp[Instr.field,go_sem,asAgg]
structure AtX (x:R.Leaf)(s:List UInt8):Prop where
 ok:x=R.none s∨OkL x
 path:x.path=s
theorem atX {t:List R.Leaf}(h:OkT t)(s:List UInt8):AtX (R.at_ t s) s:=by
 refine⟨bJ h s,?_⟩;rcases vY t s with⟨_,e⟩|⟨_,_,e⟩
 ·rw[e];rfl
 ·exact e
theorem AtX.kinds {x:R.Leaf}{s:List UInt8}(h:AtX x s):(x.kind=0∧pk x=0∧x=R.none s)∨(x.kind=35∧pk x=1∧OkL x)∨(x.kind=61∧pk x=2∧OkL x)∨(x.kind=42∧pk x=3∧OkL x):=by
 rcases h.ok with h|h
 ·subst h;exact .inl ⟨rfl,rfl,rfl⟩
 ·rcases h.kind with k|k|k
  ·exact .inr (.inl ⟨k.1,by simp[pk,k.1],h⟩)
  ·exact .inr (.inr (.inl ⟨k.1,by simp[pk,k.1],h⟩))
  ·exact .inr (.inr (.inr ⟨k.1,by simp[pk,k.1],h⟩))
theorem AtX.oth {x:R.Leaf}{s:List UInt8}(h:AtX x s)(k kk:Int)(hk:(k=1∧kk=35)∨(k=2∧kk=61)∨(k=3∧kk=42)):((pk x !=0)&&(pk x !=k))=decide (x.kind≠0∧x.kind≠kk):=by
 rcases hk with⟨rfl,rfl⟩|⟨rfl,rfl⟩|⟨rfl,rfl⟩<;>rcases h.kinds with k|k|k|k<;>(rw[k.1,k.2.1];decide)
theorem AtX.zero {x:R.Leaf}{s:List UInt8}(h:AtX x s):(pk x==0)=decide (x.kind=0):=by
 rcases h.kinds with k|k|k|k<;>(rw[k.1,k.2.1];decide)
theorem AtX.num {x:R.Leaf}{s:List UInt8}(h:AtX x s): -1000000000≤x.n∧x.n≤1000000000:=by
 rcases h.ok with h|h
 ·subst h;simp[R.none]
 ·exact⟨h.lo,h.hi⟩
theorem Zz {v:Value}{a b:Int}(h:b=a):Ending.returned (.tuple #[v,.int .i64 a])= .returned (.tuple #[v,.int .i64 b]):=by rw[h]
def Qo (w w' :World)(M:Nat→Prop)(e:Ending)(t:List R.Leaf)(r:Int×R.Leaf):Prop:=
 ∃va vn vc,e= .returned (.tuple #[.slice va vn vc,.int .i64 r.1])∧(r.1=0→PT w' M (.slice va vn vc) (R.set t r.2))∧Below w.heap.size w w'
theorem yU {w:World}{M:Nat→Prop}{v:Value}{t:List R.Leaf}(h:PT w M v t):∃a c,v= .slice a t.length c:=by
 obtain⟨L,rfl,⟨a,c,rfl,_⟩,_⟩:=h;exact⟨a,c,by simp⟩
theorem cy (w:World)(M:Nat→Prop)(y:R.Leaf)(h:y.items=[]):It w M (y,.slice none 0 0):=by
 refine⟨none,0,?_,?_,?_,?_⟩
 ·simp[h]
 ·simp[h]
 ·unfold maxLen;omega
 ·intro hh;simp[h]at hh
theorem bH (v:Value)(t:List R.Leaf)(s:List UInt8)(n:Int)(w:World)(M:Nat→Prop)(hM:∀b,M b→b<w.heap.size)(h:PT w M v t)(a4:OkT t)(hs:R.isPath s=true)(d3:n≤9223372036854775807)(d4: -9223372036854775808≤n):
  Calls rJ 57 #[v,.string ⟨s.toArray⟩,.int .i64 n] w fun e w' =>Qo w w' M e t (R.addV t (R.at_ t s) s n):=by
 have b8:=a4.few;have b9:s.length≤1000:=by have:=yZ _ hs;omega
 have b3:∀x∈t,x.path.length≤1000:=fun x hx=>(a4.ok x hx).good.path
 have a1:=J5 v t s 1 w M h (by omega) a4.sort b3 b9;have b1:=fun W (hW:Below w.heap.size w W)=>UB v t s W M (h.below hW) (by omega) a4.sort
 have a8:=fun W (hW:Below w.heap.size w W)=>G2 v t s W M (h.below hW) (by omega) a4.sort
 have a2:=atX a4 s;have a3:=fun(x:R.Leaf) W (hW:Below w.heap.size w W) (a0:n≤1000000000-x.n) (a7: -1000000000-x.n≤n)=>Uu v t {path:=s,kind:=35,n:=x.n+n,text:=[],items:=[]} (.slice none 0 0) W M (fun b hb=>by have:=hM b hb;have:=hW.size;omega) (h.below hW) a4 hs (cy W M _ rfl) (.inr ⟨hs,.inl ⟨rfl,rfl,rfl⟩,by simp only;omega,by simp only;omega,rfl,by simp,by simp,fun i j hi=>by simp at hi⟩) (by simp)
 clear h a4 b3;generalize R.at_ t s=x at*;obtain⟨c9,c8⟩:=a2.num;have a5 :=a3 x;clear a3;by_cases c1:x.kind≠0∧x.kind≠35
 ·have e1:((pk x !=0)&&(pk x !=1))=true:=by
   rw[a2.oth 1 35 (by simp)];exact decide_eq_true c1
  have HR:Hid (R.addV t x s n=(6,x)):=by show _=_;rw[R.addV,if_pos c1]
  rw[e1]at a1;simp only[if_true]at a1;clear a2 c1 e1;go_enter D1,D2;go_wp2_with fail
  refine a1.mono ?_;rintro e w1 ⟨rfl,a0⟩;go_wp2;go_ret2;exact⟨none,0,0,Zz (by rw[HR.out]),(fun h=>by rw[HR.out]at h;cases h),a0⟩
 have e1:((pk x !=0)&&(pk x !=1))=false:=by
  rw[a2.oth 1 35 (by simp)];exact decide_eq_false c1
 rw[e1]at a1;simp only[Bool.false_eq_true,if_false]at a1;by_cases c2:R.blocked t s=true
 ·have HR:Hid (R.addV t x s n=(7,x)):=by show _=_;rw[R.addV,if_neg c1,if_pos c2]
  rw[if_pos c2]at a1;clear a2 c1 e1 c2;go_enter D1,D2;go_wp2_with fail
  refine a1.mono ?_;rintro e w1 ⟨rfl,a0⟩;go_wp2;go_ret2;exact⟨none,0,0,Zz (by rw[HR.out]),(fun h=>by rw[HR.out]at h;cases h),a0⟩
 rw[if_neg c2]at a1;have c7:=KB (.int .i64 (pk x)) (.int .i64 x.n);by_cases c3:1000000000-x.n<n∨n< -1000000000-x.n
 ·have HR:Hid (R.addV t x s n=(8,x)):=by show _=_;rw[R.addV,if_neg c1,if_neg c2,if_pos c3]
  clear a2 c1 e1 c2;go_enter D1,D2;go_wp2_with fail
  refine a1.mono ?_;rintro e w1 ⟨rfl,a0⟩;go_wp2_with fail
  refine(b1 _ a0).mono ?_;rintro e w2 ⟨ia,ic,rfl,b4,a7⟩;by_cases c6 :1000000000-x.n<n
  ·go_wp2
   go_ret2;exact⟨none,0,0,Zz (by rw[HR.out]),(fun h=>by rw[HR.out]at h;cases h),a0.trans (a7.mono a0.size)⟩
  ·have b6 :n< -1000000000-x.n:=by omega
   go_wp2;go_ret2;exact⟨none,0,0,Zz (by rw[HR.out]),(fun h=>by rw[HR.out]at h;cases h),a0.trans (a7.mono a0.size)⟩
 have d1:n≤1000000000-x.n:=by omega
 have d2: -1000000000-x.n≤n:=by omega
 by_cases c4:x.kind=0∧24≤t.length
 ·have HR:Hid (R.addV t x s n=(4,x)):=by show _=_;rw[R.addV,if_neg c1,if_neg c2,if_neg c3,if_pos c4]
  have e4:((pk x==0)&&decide (24≤t.length))=true:=by
   rw[a2.zero,decide_eq_true c4.1,decide_eq_true c4.2];rfl
  rw[e4]at a8;clear a2 c1 e1 c2 c3 c4 e4;go_enter D1,D2;go_wp2_with fail
  refine a1.mono ?_;rintro e w1 ⟨rfl,a0⟩;go_wp2_with fail
  refine(b1 _ a0).mono ?_;rintro e w2 ⟨ia,ic,rfl,b4,a7⟩;have a6:=a0.trans (a7.mono a0.size);go_wp2_with fail
  refine(a8 _ a6).mono ?_;rintro e w3 ⟨rfl,b2⟩;go_wp2;go_ret2;exact⟨none,0,0,Zz (by rw[HR.out]),(fun h=>by rw[HR.out]at h;cases h),a6.trans (b2.mono a6.size)⟩
 have HR:Hid (R.addV t x s n=(0,{path:=s,kind:=35,n:=x.n+n,text:=[],items:=[]})):=by show _=_;rw[R.addV,if_neg c1,if_neg c2,if_neg c3,if_neg c4]
 have e4:((pk x==0)&&decide (24≤t.length))=false:=by
  rw[a2.zero,←Bool.decide_and];exact decide_eq_false c4
 rw[e4]at a8;clear a2 c1 e1 c2 c3 c4 e4;go_enter D1,D2;go_wp2_with fail
 refine a1.mono ?_;rintro e w1 ⟨rfl,a0⟩;go_wp2_with fail
 refine(b1 _ a0).mono ?_;rintro e w2 ⟨ia,ic,rfl,b4,a7⟩;have a6:=a0.trans (a7.mono a0.size);go_wp2_with fail
 refine(a8 _ a6).mono ?_;rintro e w3 ⟨rfl,b2⟩;have a9:=a6.trans (b2.mono a6.size);go_wp2_with fail
 refine(a5 _ a9 d1 d2).mono ?_;rintro e w4 ⟨v4,rfl,b5,b7⟩;obtain⟨va,vc,rfl⟩:=yU b5;go_wp2;go_ret2;exact⟨va,_,vc,Zz (by rw[HR.out]),(fun _=>by rw[HR.out];exact b5),a9.trans (b7.mono a9.size)⟩
theorem BuilderAt.below {T e:TypeId}{B b:Nat}{p:Value}{bs:List Value}{w w' :World}(h:D3 T e B b p bs w)(hb:Below w.heap.size w w'):D3 T e B b p bs w' :=by
 have hl:=h.lt;obtain⟨h1,v,h2,h3,h4⟩:=h;exact⟨h1,v,by rw[hb.block b hl];exact h2,Zm h3 hb,h4⟩
theorem IsBuilder.below {T e:TypeId}{B b:Nat}{bs:List Value}{w w' :World}(h:D4 T e B b bs w)(hb:Below w.heap.size w w'):D4 T e B b bs w' :=by
 rcases h with h|h
 ·exact .inl (BuilderAt.below h hb)
 ·exact .inr (BuilderAt.below h hb)
theorem Jp (B b:Nat)(bs:List Value)(s:ByteArray)(w:World)(h:D4 134 5 B b bs w)(a0:bs.length+s.size≤140737488355328)(a1:B≤w.heap.size):
  Calls rJ 88 #[.pointer (some ⟨b,0,none⟩),.string s] w fun e w' =>e= .returned (.tuple #[.int .i64 s.size,.nilIface])∧(D3 134 5 B b (.pointer (some ⟨b,0,none⟩)) (bs++Lib.strCells s) w' ∧Below B w w'):=
 Any.Builder_WriteString {Tryz.lays156 with} Tryz.Builder_Extra_156 B b bs s w h a0 a1
theorem Yz (v:Value)(t:List R.Leaf)(w:World)(M:Nat→Prop)(h:PT w M v t)(hg:∀x∈t,OkL x)(hl:t.length≤1000)(hG:Zy w):
  Calls rJ 50 #[v] w fun e w' =>e= .returned (.string ⟨(R.Written t).toArray⟩)∧Below w.heap.size w w' :=by
 obtain⟨L,rfl,⟨a,cap,rfl,hn,hm,hc⟩,hI⟩:=h;unfold maxLen at hm;rw[pA]at hl;go_enter Tryz.func50,Tryz.ntmps50;go_wp2;go_loopw [8] (fun i wr=>∃(k:Nat) (a0:List UInt8),k≤L.length∧i= .int .i64 k∧a0=R.Written ((L.map (·.1)).take k)∧a0.length≤k*1000000∧D4 134 5 w.heap.size w.heap.size (rV a0) wr∧Below w.heap.size w wr) (fun i _=>L.length-(intOf i).toNat)
 case atStart=>exact⟨0,[],sQ _,rfl,rfl,by simp,.inl ⟨j0a _,.slice none 0 0,heap_alloc_new w _,World.ownsRow_nil _ _ _ _,by simp[Value.ownBlock]⟩,(j0g _ _).alloc (j0a _) _⟩
 case round=>
  obtain⟨k,a0,hk,rfl,he,b6,b1,hb⟩:=hrel;have HE:Hid (a0=R.Written ((L.map (·.1)).take k)):=he;have a9:Hid (D4 134 5 w.heap.size w.heap.size (rV a0) wr):=b1;clear he b1;have a8:=hb.size;by_cases a5:k<L.length
  ·obtain⟨b,off,rfl,a3,_,a1⟩:=hc (by omega)
   obtain⟨x,ia,ic,HL,b4,c0,c1,c2,c3,c4⟩:=qo hI a1 k a5;have HP:Hid ((L.map (·.1))[k]'(by simpa using a5)=x):=by show _=_;simp[HL.out]
   have a7:OkL x:=by
    have:=hg _ (j0c (l:=L.map (·.1)) (n:=k) (by simpa using a5));rwa[HP.out]at this
   have hp:=a7.good.path;have b5:=j8 x a7.good;clear a1 hc hI hg;have e0:=hb.cell (p:=⟨b,off+k*5,none⟩) a3;have e1:=hb.cell (p:=⟨b,off+k*5+1,none⟩) a3;have e2:=hb.cell (p:=⟨b,off+k*5+2,none⟩) a3;have e3:=hb.cell (p:=⟨b,off+k*5+3,none⟩) a3;have e4:=hb.cell (p:=⟨b,off+k*5+4,none⟩) a3;rw[c0]at e0;rw[c1]at e1;rw[c2]at e2;rw[c3]at e3;rw[c4]at e4;have HV:Hid (∀W,Below w.heap.size w W→Calls rJ 89 #[.agg #[.int .i64 (pk x),.int .i64 x.n,.string ⟨x.text.toArray⟩,.slice ia x.items.length ic]] W fun e w' =>e= .returned (.string ⟨(R.written x).toArray⟩)∧Below W.heap.size W w'):=fun W hW=>gZ x _ W M (Rd.below b4 hW) a7 (hG.below hW)
   clear c0 c1 c2 c3 c4;go_wp2_with fail
   have a6:Hid (Below wr.heap.size wr (wr.alloc (Obj.cells #[.string ⟨x.path.toArray⟩,.int .i64 (pk x),.int .i64 x.n,.string ⟨x.text.toArray⟩,.slice ia x.items.length ic] 139)).drew):=((j0g _ _).alloc (j0a _) _).drew;have b7:(R.line x).length≤1000000:=R.line_length x b5 hp;have q1:¬9223372036854775807<x.path.length+1:=by omega
   have q2:¬9223372036854775807<x.path.length+1+(R.written x).length:=by omega
   have q3:¬9223372036854775807<x.path.length+1+(R.written x).length+1:=by omega
   go_region_with (first
    |(go_at_call 89;refine(HV.out _ (hb.trans (a6.out.mono a8))).mono ?_;rintro e w2 ⟨rfl,a4⟩;have m0:w2.cell? ⟨wr.heap.size,0,none⟩=some (.string ⟨x.path.toArray⟩):=by(rw[a4.cell (p:=⟨wr.heap.size,0,none⟩) (by simp)];simp))
    |(go_at_call 88;go_loud (refine(Jp w.heap.size w.heap.size (rV a0) _ _ (IsBuilder.below a9.out (a6.out.trans (a4.mono (by simp)))) (by simp only[Lib.byteCells_length,ByteArray.size_append];simp only[aF,List.size_toArray];simp;omega) (by have:=a4.size;simp at this;omega)).mono ?_;rintro e w3 ⟨rfl,a2,b3⟩)))
   all_goals
    go_wp2;go_roundw
    case rel=>
     refine⟨k+1,a0++R.line x,by omega,by go_num,?_,?_,?_,(hb.trans (a6.out.mono a8)).trans ((a4.mono (by simp;omega)).trans b3)⟩
     ·rw[R.Written_snoc _ k (by simpa using a5),HP.out,←HE.out]
     ·rw[mB];omega
     ·rw[cf [32] #[32] rfl,cf [10] #[10] rfl,jF,jF,jF,Lib.strCells_eq,←Lib.byteCells_append]at a2
      refine .inr ?_;simpa[R.line]using a2
    case measure=>simp[intOf];omega
  ·go_wp2_with fail
   refine(Tryz.Builder_String_any w.heap.size w.heap.size a0 _ a9.out a8).mono ?_;rintro e w1 ⟨rfl,b2⟩;go_wp2;go_ret;exact⟨YI (by rw[HE.out,List.take_of_length_le (by simp;omega)]),hb.trans b2⟩
