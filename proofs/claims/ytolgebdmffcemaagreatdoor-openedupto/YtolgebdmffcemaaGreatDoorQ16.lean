import Derived.Test.YtolgebdmffcemaaGreatDoorQ13
import Derived.Test.YtolgebdmffcemaaGreatDoorShelf
import Derived.Lib.IndexBytes
import Derived.Lib.SplitLaws
import Derived.Lib.AppendStr
import Derived.Conc.Own4
set_option linter.all false
set_option maxHeartbeats 20000000
set_option maxRecDepth 1000000
open Go.Lib renaming compareBytes→DC,indexByte→DH,splitK→DI,index→DJ,index_one→DK,hasPrefix→DL,countB→DO,TabIs→E5,itoa→nJ,join→E7,join_cons→E8,joinTail→E9,BuilderAt→EO,IsBuilder→EP,byteCells→tG,byteCells_length→EU,strCells_eq→EV,byteCells_append→EW
open UInt8 renaming lt_irrefl→DD,le_antisymm→pH,not_lt→pI,ofNat→nK,toNat_inj→EY
open Go renaming World→eX,Calls→wH,Value→eB
open Go.Proofs.Tryz renaming prog→sU,strings_Compare→DE,func92→DR,ntmps92→DS,func94→DU,ntmps94→DV,results94→DY,func95→DZ,ntmps95→E0,func93→E3,ntmps93→E4,strings_Join_none→ED,strings_Join→EF,func89→EG,ntmps89→EH,func114→EI,ntmps114→EJ,func96→EK,ntmps96→EL,func57→EM,ntmps57→EN,lays156→EQ,Builder_Extra_156→ER,Builder_String_any→EX,func107→EZ,underlying100→H5,underlying9→H6,func45→H7,ntmps45→H8
open Go.RowKit renaming Below→tH
open List renaming length_map→aN,findIdx_eq→DF,findIdx_eq_length→aT,getElem_of_mem→wJ,any_eq_true→nX,mem_cons→iT,length_cons→nM,length_nil→pC,map_cons→DM,sum_cons→DN,map_map→DP,map_congr_left→aQ,flatten_cons→EB,eq_nil_of_length_eq_zero→wR,map_id→EE,getElem?_map→sZ,flatMap_cons→rL,map_append→tB,map_take→tJ,map_drop→tK,length_append→nL,length_take→pZ,length_drop→rA,mem_append→iZ,mem_of_mem_take→rO,mem_of_mem_drop→rP,length_set→tE,take_of_length_le→nR,map_nil→H3
open Nat renaming zero_le→wB,lt_trichotomy→DG,zero_add→lQ,eq_zero_or_pos→lG
open Bool renaming eq_false_iff→nY,and_eq_true→pB,true_and→nU
open ByteArray renaming size→DQ
open Go.World renaming cell?_alloc_at→DT,size_alloc→DW,frozen?_alloc_at→DX,drewN→E6,ownsRow_nil→ES
open Go.Builtin renaming append_→eP
namespace Go.Proofs.YtolgebdmffcemaaGreatDoor
open Go.RowKit Go.Shelf
theorem Yp:∀a b:List UInt8,decide (DC a b<0)=Op.bytesLess a b
 |[],[]=>rfl
 |[],_::_=>rfl
 |_::_,[]=>rfl
 |a::x,b::y=>by
  have ih:=Yp x y;rw[DC,Op.bytesLess];by_cases h1:a<b
  ·rw[if_pos h1];simp[h1]
  ·rw[if_neg h1]
   by_cases h2:b<a
   ·rw[if_pos h2]
    have:a≠b:=fun e=>by subst e;exact DD _ h2
    simp[h1,this]
   ·rw[if_neg h2]
    have:a=b:=pH (pI.1 h2) (pI.1 h1);subst this;rw[ih];simp
theorem vX:∀a b:List UInt8,(DC a b==0)=(a==b)
 |[],[]=>rfl
 |[],_::_=>rfl
 |_::_,[]=>rfl
 |a::x,b::y=>by
  have ih:=vX x y;rw[DC];by_cases h1:a<b
  ·have:a≠b:=fun e=>by subst e;exact DD _ h1
   rw[if_pos h1];simp[this]
  ·rw[if_neg h1]
   by_cases h2:b<a
   ·have:a≠b:=fun e=>by subst e;exact DD _ h2
    rw[if_pos h2];simp[this]
   ·rw[if_neg h2]
    have:a=b:=pH (pI.1 h2) (pI.1 h1);subst this;rw[ih];simp
theorem XB:∀a b:List UInt8, -1≤DC a b∧DC a b≤1
 |[],[]=>by simp[DC]
 |[],_::_=>by simp[DC]
 |_::_,[]=>by simp[DC]
 |a::x,b::y=>by
  have ih:=XB x y;rw[DC];split
  ·omega
  ·split
   ·omega
   ·exact ih
theorem uB (x:R.Leaf)(ia:Option Addr)(il ic:Nat)(s:List UInt8)(w:eX):
  wH sU 195 #[.agg #[.string ⟨x.path.toArray⟩,.int .i64 (pk x),.int .i64 x.n,.string ⟨x.text.toArray⟩,.slice ia il ic],.string ⟨s.toArray⟩] w fun e w' =>e= .returned (.int .i64 (DC x.path s))∧tH w.heap.size w w' :=by
 go_enter Tryz.func195,Tryz.ntmps195;go_wp2_with fail
 refine(DE _ _ _).mono ?_;rintro e w1 ⟨rfl,rfl⟩;go_wp2;go_ret;exact⟨rfl,(j0g _ _).alloc (j0a _) _⟩
theorem Uj (v:eB)(t:List R.Leaf)(s:List UInt8)(w:eX)(M:Nat→Prop)(h:PT w M v t)(hl:t.length≤1000000)(a2:Ys t):
  wH sU 194 #[v,.string ⟨s.toArray⟩,.func (.func 195) #[] #[]] w fun e w' =>e= .returned (.tuple #[.int .i64 (yg t s:Int),.bool (t.any fun x=>x.path==s)])∧tH w.heap.size w w' :=by
 obtain⟨L,hL,⟨a,cap,rfl,hn,hm,hc⟩,hI⟩:=h;have a7:t.length=L.length:=by rw[←hL,aN]
 have HT:Hid (∀(i:Nat) (h:i<L.length) (hb:i<t.length),t[i]'hb=(L[i]'h).1):=by intro i h hb;subst hL;simp
 have a3:Hid (t.length=L.length):=a7;rw[a7]at hl;have a5:=a2.mono s;unfold maxLen at hm;clear a7;go_enter Tryz.func194,Tryz.ntmps194;go_wp2;go_loopw [9,10] (fun i j wr=>∃p q:Nat,p≤q∧q≤L.length∧i= .int .i64 p∧j= .int .i64 q∧(∀k (h:k<t.length),k<p→zG s t[k].path=true)∧(∀k (h:k<t.length),q≤k→zG s t[k].path=false)∧tH w.heap.size w wr) (fun i j _=>(intOf j).toNat-(intOf i).toNat)
 case atStart=>exact⟨0,L.length,wB _,j0a _,rfl,rfl,fun k _ h=>by omega,fun k h h' =>by rw[a3.out]at h;omega,j0g _ _⟩
 case round=>
  obtain⟨p,q,c7,hq,rfl,rfl,hA,hB,hb⟩:=hrel;have HA:=z9 hA;have HB:=z9 hB;have b4:=z9 a5;have HS:=z9 a2;clear hA hB a5 a2;by_cases b9:p<q
  ·obtain⟨b,off,rfl,a1,_,a0⟩:=hc (by omega)
   obtain⟨h,hh⟩:∃h:Nat,h=(p+q)/2:=⟨_,rfl⟩
   have c6:p≤h:=by omega
   have c8:h<q:=by omega
   have a9:h<L.length:=by omega
   have b8:((p:Int)+(q:Int))/2=(h:Int):=by omega
   obtain⟨x,ia,ic,HL,b7,c0,c1,c2,c3,c4⟩:=qs hI a0 h a9;have HX:Hid (t[h]'(by rw[a3.out];exact a9)=x):=by show _=_;rw[HT.out h a9 _,HL.out]
   have e0:=(hb.cell (p:=⟨b,off+h*5,none⟩) a1).trans c0;have e1:=(hb.cell (p:=⟨b,off+h*5+1,none⟩) a1).trans c1;have e2:=(hb.cell (p:=⟨b,off+h*5+2,none⟩) a1).trans c2;have e3:=(hb.cell (p:=⟨b,off+h*5+3,none⟩) a1).trans c3;have e4:=(hb.cell (p:=⟨b,off+h*5+4,none⟩) a1).trans c4;clear c0 c1 c2 c3 c4 a0 hc hI hh;go_wp2_with fail
   refine(uB x ia x.items.length ic s _).mono ?_;rintro e w1 ⟨rfl,b3⟩;have b1:tH w.heap.size w w1:=hb.trans (b3.mono hb.size);have b6:=XB x.path s;generalize b2:DC x.path s=c at b6;by_cases b5:c<0
   ·have HC:Hid (zG s x.path=true):=by show _=_;rw[zG,←Yp,b2];simpa using b5
    clear b2;go_wp2;go_roundw
    case rel=>
     refine⟨h+1,q,by omega,by omega,by go_num,rfl,fun k hk h1=>b4.out k h hk (by rw[a3.out];exact a9) (by omega) (by rw[HX.out];exact HC.out),HB.out,b1⟩
    case measure=>simp[intOf];omega
   ·have HC:Hid (zG s x.path=false):=by show _=_;rw[zG,←Yp,b2];simpa using b5
    clear b2;go_wp2;go_roundw
    case rel=>
     refine⟨p,h,by omega,by omega,rfl,rfl,HA.out,fun k hk h1=> ?_,b1⟩;rw[nY];intro h3;have:=b4.out h k (by rw[a3.out];exact a9) hk h1 h3;rw[HX.out,HC.out]at this;cases this
    case measure=>simp[intOf];omega
  ·obtain rfl:p=q:=by omega
   have HP:Hid (yg t s=p):=by
    show _=_;unfold yg;by_cases a4:p<t.length
    ·rw[DF a4]
     exact⟨by simpa using HB.out p a4 (j0a _),fun j hj=>by simpa using HA.out j (by omega) hj⟩
    ·obtain rfl:p=t.length:=by rw[a3.out]at a4⊢;omega
     refine aT.2 fun y hy=> ?_
     obtain⟨k,hk,rfl⟩:=wJ hy;simpa using HA.out k hk hk
   have HN:Hid (∀k (hk:k<t.length),k<p→(t[k].path==s)=false):=by
    intro k hk a6;have:=HA.out k hk a6;rw[nY];intro e;rw[zG,beq_iff_eq.1 e,zm]at this;cases this
   by_cases a4:p<L.length
   ·obtain⟨b,off,rfl,a1,_,a0⟩:=hc (by omega)
    obtain⟨x,ia,ic,HL,b7,c0,c1,c2,c3,c4⟩:=qs hI a0 p a4;have HX:Hid (t[p]'(by rw[a3.out];exact a4)=x):=by show _=_;rw[HT.out p a4 _,HL.out]
    have HY:Hid ((t.any fun y=>y.path==s)=(x.path==s)):=by
     show _=_
     cases he:(x.path==s)
     ·rw[nY]
      intro h;obtain⟨y,hy,a8⟩:=nX.1 h;obtain⟨k,hk,rfl⟩:=wJ hy;rcases DG k p with a6|a6|a6
      ·have:=HN.out k hk a6;rw[a8]at this;cases this
      ·subst a6;rw[HX.out,he]at a8;cases a8
      ·have h1:=HS.out p k (by rw[a3.out];exact a4) hk a6
       have h2:=HB.out p (by rw[a3.out];exact a4) (j0a _);rw[beq_iff_eq.1 a8]at h1;rw[zG,h1]at h2;cases h2
     ·exact nX.2 ⟨t[p]'(by rw[a3.out];exact a4),j0c _,by rw[HX.out];exact he⟩
    have e0:=(hb.cell (p:=⟨b,off+p*5,none⟩) a1).trans c0;have e1:=(hb.cell (p:=⟨b,off+p*5+1,none⟩) a1).trans c1;have e2:=(hb.cell (p:=⟨b,off+p*5+2,none⟩) a1).trans c2;have e3:=(hb.cell (p:=⟨b,off+p*5+3,none⟩) a1).trans c3;have e4:=(hb.cell (p:=⟨b,off+p*5+4,none⟩) a1).trans c4;clear c0 c1 c2 c3 c4 a0 hc hI;go_wp2_with fail
    refine(uB x ia x.items.length ic s _).mono ?_;rintro e w1 ⟨rfl,b3⟩;have b1:tH w.heap.size w w1:=hb.trans (b3.mono hb.size);have HQ:=z9 (vX x.path s);generalize DC x.path s=c at HQ;go_wp2;go_ret2;exact⟨vv (by rw[HP.out]) (by rw[HY.out,HQ.out]),b1⟩
   ·have HY:Hid ((t.any fun y=>y.path==s)=false):=by
     show _=_;rw[nY];intro h;obtain⟨y,hy,a8⟩:=nX.1 h;obtain⟨k,hk,rfl⟩:=wJ hy;have:=HN.out k hk (by rw[a3.out]at hk;omega);rw[a8]at this;cases this
    go_wp2;go_ret2;exact⟨vv (by rw[HP.out]) HY.out,hb⟩
theorem UN (v:eB)(t:List R.Leaf)(s:List UInt8)(w:eX)(M:Nat→Prop)(h:PT w M v t)(hl:t.length≤1000000)(a0:Ys t):
  wH sU 145 #[v,.string ⟨s.toArray⟩] w fun e w' =>e= .returned (.tuple #[.int .i64 (yg t s:Int),.bool (t.any fun x=>x.path==s)])∧tH w.heap.size w w' :=by
 go_enter Tryz.func145,Tryz.ntmps145;go_wp2_with fail
 refine(Uj v t s _ M h hl a0).mono ?_;rintro e w1 ⟨rfl,a1⟩;go_wp2;go_ret2;exact⟨rfl,a1⟩
theorem qE (c:UInt8):∀s:List UInt8,(DH s c= -1∧∀x∈s,x≠c)∨∃a r,s=a++c::r∧(∀x∈a,x≠c)∧DH s c=(a.length:Int)
 |[]=> .inl ⟨rfl,by simp⟩
 |b::l=>by
  by_cases hb:b=c
  ·exact .inr ⟨[],l,by rw[hb];rfl,by simp,by rw[DH,if_pos (by simpa using hb)];rfl⟩
  ·rcases qE c l with⟨h1,h2⟩|⟨a,r,h1,h2,h3⟩
   ·refine .inl ⟨by rw[DH,if_neg (by simpa using hb),if_pos (by simpa using h1)],fun x hx=> ?_⟩
    rcases iT.1 hx with rfl|hx
    ·exact hb
    ·exact h2 x hx
   ·refine .inr ⟨b::a,r,by rw[h1];rfl,fun x hx=> ?_,?_⟩
    ·rcases iT.1 hx with rfl|hx
     ·exact hb
     ·exact h2 x hx
    ·rw[DH,if_neg (by simpa using hb),if_neg (by rw[h3];simp),h3];simp
theorem FW:∀(n:Nat) (s:List UInt8),s.length≤n→DI [47] 0 (Lib.count s [47]) s=R.spl s
 |n,s,hn=>by
  rcases qE 47 s with⟨h1,h2⟩|⟨a,r,h1,h2,h3⟩
  ·have hi:DJ s [47]= -1:=by rw[DK,h1]
   rw[Lib.count_miss hi,R.spl_plain s h2];rfl
  ·have hi:DJ s [47]=(a.length:Int):=by rw[DK,h3]
   cases n with
   |zero=>rw[h1]at hn;simp at hn
   |succ n=>
    have hd:s.drop (a.length+1)=r:=by rw[h1];simp
    have ht:s.take a.length=a:=by rw[h1];simp
    have ih:=FW n r (by rw[h1]at hn;simp at hn;omega);rw[Lib.count_hit (by simp) hi];simp only[nM,pC,lQ];rw[hd,Nat.add_comm,DI,if_neg (by rw[hi];simp),hi];simp only[Int.toNat_natCast,Nat.add_zero,nM,pC,lQ];rw[hd,ht,ih];conv=>rhs;rw[h1,R.spl_cut a r h2]
theorem KQ (a b:List UInt8):DL b (a++ [47])=R.leads a b:=by
 rw[Bool.eq_iff_iff];unfold DL R.leads;rw[List.isPrefixOf_iff_prefix];constructor
 ·rintro⟨t,rfl⟩
  simp
 ·intro h
  simp only[pB,decide_eq_true_eq,beq_iff_eq]at h;obtain⟨h1,h2,h3⟩:=h;refine⟨b.drop (a.length+1),?_⟩;rw[j0d h1]at h3;have h4:b[a.length]=47:=by simpa using h3
  conv=>rhs;rw[←List.take_append_drop a.length b,h2,List.drop_eq_getElem_cons h1,h4]
  simp
theorem f6 (s t:List UInt8)(w:eX)(_hs:s.length≤1000):
  wH sU 193 #[.string ⟨s.toArray⟩,.string ⟨t.toArray⟩] w fun e w' =>e= .returned (.bool (R.leads s t))∧w' =w:=by
 go_enter Tryz.func193,Tryz.ntmps193;go_wp2_with fail
 refine(Tryz.strings_HasPrefix _ _ _).mono ?_;rintro e w1 ⟨rfl,rfl⟩;go_wp2;go_ret;exact⟨zA (by rw[←KQ]),rfl⟩
theorem JS:∀(l:List UInt8),l.length+1=((R.spl l).map fun p=>p.length+1).sum
 |[]=>by simp[R.spl]
 |c::r=>by
  have ih:=JS r;rw[R.spl];split
  ·simp only[DM,DN,pC,nM];omega
  ·split
   ·rename_i e;rw[e]at ih;simp at ih
   ·rename_i h t e
    rw[e]at ih;simp only[DM,DN,nM]at ih⊢;omega
theorem Kk:∀(L:List (List UInt8)),L.all R.isName=true→(L.map fun p=>p.length+1).sum≤L.length*9
 |[],_=>by simp
 |p::t,h=>by
  simp only[List.all_cons,pB]at h;have h1:=Kk t h.2;have h2:p.length≤8:=by have:=h.1;simp[R.isName]at this;exact this.2.2
  simp only[DM,DN,nM];omega
theorem CM (l:List UInt8)(h:(R.spl l).all R.isName=true):l.length+1≤(R.spl l).length*9:=by
 rw[JS l];exact Kk _ h
theorem UG (s:List UInt8)(h:R.isPath s=true):s.length≤35:=by
 simp only[R.isPath,pB,decide_eq_true_eq]at h;have:=CM s h.2.1;omega
theorem qT (s:List UInt8):(Lib.splitB ⟨[(47:UInt8)].toArray⟩ 0 (DO ⟨s.toArray⟩ ⟨[(47:UInt8)].toArray⟩) ⟨s.toArray⟩).map Value.string=(R.spl s).map S:=by
 have h:=Lib.splitB_data ⟨[(47:UInt8)].toArray⟩ 0 (DO ⟨s.toArray⟩ ⟨[(47:UInt8)].toArray⟩) ⟨s.toArray⟩;rw[show(DI (⟨[(47:UInt8)].toArray⟩:ByteArray).data.toList 0 (DO ⟨s.toArray⟩ ⟨[(47:UInt8)].toArray⟩) (⟨s.toArray⟩:ByteArray).data.toList)=R.spl s from FW s.length s (j0a _)]at h;rw[←h,DP];apply aQ;intro x _;simp[S]
theorem Gt (s:List UInt8):DO ⟨s.toArray⟩ ⟨[(47:UInt8)].toArray⟩+1=(R.spl s).length:=by
 have h1:=Lib.splitB_all ⟨[(47:UInt8)].toArray⟩ (by simp[DQ]) 0 _ ⟨s.toArray⟩ rfl;have h2:=congrArg List.length (qT s);rw[aN,aN]at h2;omega
theorem OA (s:List UInt8)(w:eX)(hs:s.length≤maxLen)(mx:Int)(a4:w.cell? ⟨0,0,none⟩=some (.int .i64 mx)):
  wH sU 92 #[.string ⟨s.toArray⟩] w fun e w' =>e= .returned (.bool (R.isPath s))∧tH w.heap.size w w' :=by
 unfold maxLen at hs;by_cases a5:35<s.length
 ·go_enter DR,DS
  go_wp2;go_ret;exact⟨zA (by rw[nY];intro h;have:=UG s h;omega),j0g _ _⟩
 have a1:=Tryz.strings_Split ⟨s.toArray⟩ ⟨[(47:UInt8)].toArray⟩ mx w (by simp[DQ];omega) a4 (by simp[DQ]);rw[qT,Gt]at a1;have HP:Hid (R.isPath s=((R.spl s).all R.isName&&decide ((R.spl s).length≤4))):=by
  show _=_;rw[R.isPath,decide_eq_true (by omega),nU]
 have HM:Hid (∀p∈R.spl s,p.length≤1000):=fun p hp=>by have:=R.spl_mem s p hp;omega
 have a7:=(R.spl_length s).1;generalize R.spl s=x at*;go_enter DR,DS;go_wp2_with fail
 refine a1.mono ?_;rintro e w1 ⟨rfl,a2⟩;have a0:tH w.heap.size w w1:=by rw[a2];exact(j0g _ _).alloc (j0a _) _
 have a3:∀j u,(x.map S)[j]? =some u→w1.cell? ⟨w.heap.size,j,none⟩=some u:=fun j u hu=>by
  rw[a2,DT _ _ _ _ rfl];simpa using hu
 clear a2 a1;by_cases h4:4<x.length
 ·go_wp2
  go_ret;exact⟨zA (by rw[HP.out,decide_eq_false (by omega),Bool.and_false]),a0⟩
 go_wp2;go_loop [16] (fun i=>∃k:Nat,k≤x.length∧i= .int .i64 k∧(x.take k).all R.isName=true) (fun i=>x.length-(intOf i).toNat)
 case atStart=>exact⟨0,wB _,rfl,rfl⟩
 case round=>
  obtain⟨k,a6,rfl,he⟩:=hrel;have HE:Hid ((x.take k).all R.isName=true):=he;clear he;by_cases hx:k<x.length
  ·have a8:w1.cell? ⟨w.heap.size,k,none⟩=some (.string ⟨x[k].toArray⟩):=a3 k _ (by simp[S,hx])
   clear a3;go_wp2_with fail
   refine(OB _ _ (by have:=HM.out x[k] (j0c hx);simp[DQ,maxLen];omega)).mono ?_;rintro e w2 ⟨rfl,rfl⟩
   cases hr:R.isName x[k]
   ·have HR:Hid (R.isName x[k]=false):=hr
    clear hr;go_wp2;go_ret;exact⟨zA (by rw[HP.out,R.all_bad x _ k hx HR.out];rfl),a0⟩
   ·have HR:Hid (R.isName x[k]=true):=hr
    clear hr;go_wp2;go_round
    case rel=>exact⟨k+1,by omega,by go_num,R.all_snoc x _ k hx HE.out HR.out⟩
    case measure=>simp[intOf];omega
  ·go_wp2
   go_ret;exact⟨zA (by rw[HP.out,R.all_end x _ k hx HE.out,nU];exact decide_eq_true (by omega)),a0⟩
theorem C6 {t:List R.Leaf}(hs:Ys t)(s:List UInt8)(h:(t.any fun x=>x.path==s)=true):∃hp:yg t s<t.length,(t[yg t s]'hp).path=s∧R.at_ t s=t[yg t s]'hp:=by
 obtain⟨y,hy,a1⟩:=nX.1 h;obtain⟨k,hk,rfl⟩:=wJ hy;have a0:t[k].path=s:=by simpa using a1
 have hp:yg t s=k:=by
  unfold yg;rw[DF hk];refine⟨by simp[zG,a0,zm],fun j hj=> ?_⟩;have:=hs j k (by omega) hk hj;rw[a0]at this;simp[zG,this]
 have ha:((t.take k).any fun x=>x.path==s)=false:=by
  rw[nY];intro h;obtain⟨z,hz,a2⟩:=nX.1 h;obtain⟨j,hj,rfl⟩:=List.mem_take_iff_getElem.1 hz;have:=hs j k (by omega) hk (by omega);rw[beq_iff_eq.1 a2,a0,zm]at this;cases this
 refine⟨by rw[hp];exact hk,?_,?_⟩
 ·simp only[hp];exact a0
 ·simp only[hp];exact C8 hk ha a1
theorem Fy {t:List R.Leaf}(s:List UInt8)(h:(t.any fun x=>x.path==s)=false):R.at_ t s=R.none s:=
 find_none (k:=t.length) (by omega) (by rw[List.take_length];exact h)
def PV (x:R.Leaf)(iv:eB):eB:= .agg #[.int .i64 (pk x),.int .i64 x.n,.string ⟨x.text.toArray⟩,iv]
theorem Qi (w:eX)(W:Nat)(a b c d p q r s:eB)(h0:w.cell? ⟨W,0,none⟩=some p)(h1:w.cell? ⟨W,1,none⟩=some q)(h2:w.cell? ⟨W,2,none⟩=some r)(h3:w.cell? ⟨W,3,none⟩=some s):
  ((((w.setCell ⟨W,0,none⟩ a).setCell ⟨W,1,none⟩ b).setCell ⟨W,2,none⟩ c).setCell ⟨W,3,none⟩ d).cell? ⟨W,0,none⟩=some a∧((((w.setCell ⟨W,0,none⟩ a).setCell ⟨W,1,none⟩ b).setCell ⟨W,2,none⟩ c).setCell ⟨W,3,none⟩ d).cell? ⟨W,1,none⟩=some b∧
  ((((w.setCell ⟨W,0,none⟩ a).setCell ⟨W,1,none⟩ b).setCell ⟨W,2,none⟩ c).setCell ⟨W,3,none⟩ d).cell? ⟨W,2,none⟩=some c∧((((w.setCell ⟨W,0,none⟩ a).setCell ⟨W,1,none⟩ b).setCell ⟨W,2,none⟩ c).setCell ⟨W,3,none⟩ d).cell? ⟨W,3,none⟩=some d:=by
 refine⟨?_,?_,?_,?_⟩
 ·rw[zN _ _ _ _ _ (by omega),zN _ _ _ _ _ (by omega),zN _ _ _ _ _ (by omega)];exact Yh _ _ _ _ _ h0
 ·rw[zN _ _ _ _ _ (by omega),zN _ _ _ _ _ (by omega)];exact Yh _ _ _ _ q (by rw[zN _ _ _ _ _ (by omega)];exact h1)
 ·rw[zN _ _ _ _ _ (by omega)];exact Yh _ _ _ _ r (by rw[zN _ _ _ _ _ (by omega),zN _ _ _ _ _ (by omega)];exact h2)
 ·exact Yh _ _ _ _ s (by rw[zN _ _ _ _ _ (by omega),zN _ _ _ _ _ (by omega),zN _ _ _ _ _ (by omega)];exact h3)
theorem UR (v:eB)(t:List R.Leaf)(s:List UInt8)(w:eX)(M:Nat→Prop)(h:PT w M v t)(hl:t.length≤1000000)(a0:Ys t):
  wH sU 94 #[v,.string ⟨s.toArray⟩] w fun e w' =>∃ia ic,e= .returned (.agg #[.int .i64 (pk (R.at_ t s)),.int .i64 (R.at_ t s).n,.string ⟨(R.at_ t s).text.toArray⟩,.slice ia (R.at_ t s).items.length ic])∧It w M (R.at_ t s,.slice ia (R.at_ t s).items.length ic)∧tH w.heap.size w w' :=by
 have a4:=UN v t s (w.alloc (.cells #[.int .i64 0,.int .i64 0,.string ⟨#[]⟩,.slice none 0 0] 137)) M (h.below ((j0g _ _).alloc (j0a _) _)) hl a0;obtain⟨L,hL,⟨a,cap,rfl,hn,hm,hc⟩,hI⟩:=h;unfold maxLen at hm
 cases a1:(t.any fun x=>x.path==s)
 ·have e0:=Fy s a1
  rw[a1]at a4;rw[e0];generalize yg t s=p at a4;clear hc hI a0 e0 a1;go_enter DU,DV;go_wp2_with fail
  refine a4.mono ?_;rintro e w1 ⟨rfl,a2⟩;have a6:=a2.size;simp only[DW]at a6;have hx:∀j u,#[Value.int .i64 0,.int .i64 0,.string ⟨#[]⟩,.slice none 0 0][j]? =some u→w1.cell? ⟨w.heap.size,j,none⟩=some u:=fun j u hu=>by
   rw[a2.cell (p:=⟨w.heap.size,j,none⟩) (by simp),DT _ _ _ _ rfl];exact hu
  have hf:∀j,w1.frozen? ⟨w.heap.size,j,none⟩=false:=fun j=>by
   rw[a2.frozen (p:=⟨w.heap.size,j,none⟩) (by simp),DX _ _ _ _ rfl]
  have x0:=hx 0 _ rfl;have x1:=hx 1 _ rfl;have x2:=hx 2 _ rfl;have x3:=hx 3 _ rfl;have f0:=hf 0;have f1:=hf 1;have f2:=hf 2;have f3:=hf 3;clear hx hf;go_wp2;obtain⟨z0,z1,z2,z3⟩:=Qi w1 w.heap.size (.int .i64 0) (.int .i64 0) (.string ⟨#[]⟩) (.slice none 0 0) _ _ _ _ x0 x1 x2 x3;have a5:tH w.heap.size w ((((w1.setCell ⟨w.heap.size,0,none⟩ (.int .i64 0)).setCell ⟨w.heap.size,1,none⟩ (.int .i64 0)).setCell ⟨w.heap.size,2,none⟩ (.string ⟨#[]⟩)).setCell ⟨w.heap.size,3,none⟩ (.slice none 0 0)):=
   ((((((j0g _ _).alloc (j0a _) _).trans (a2.mono (by simp))).setCell (p:=⟨w.heap.size,0,none⟩) (j0a _) _).setCell (p:=⟨w.heap.size,1,none⟩) (j0a _) _).setCell (p:=⟨w.heap.size,2,none⟩) (j0a _) _).setCell (p:=⟨w.heap.size,3,none⟩) (j0a _) _
  generalize((((w1.setCell ⟨w.heap.size,0,none⟩ (.int .i64 0)).setCell ⟨w.heap.size,1,none⟩ (.int .i64 0)).setCell ⟨w.heap.size,2,none⟩ (.string ⟨#[]⟩)).setCell ⟨w.heap.size,3,none⟩ (.slice none 0 0))=w9 at*;exact bodyPost_ret (v:= .agg #[(.int .i64 0),(.int .i64 0),(.string ⟨#[]⟩),(.slice none 0 0)]) (by simp[results,DY,go_sem,z0,z1,z2,z3]) rfl ⟨none,0,rfl,⟨none,0,rfl,j0a _,by unfold maxLen;omega,fun h=>absurd h (Nat.lt_irrefl _)⟩,a5⟩
 ·obtain⟨hp, -,a9⟩:=C6 a0 s a1
  rw[a1]at a4;have a7:t.length=L.length:=by rw[←hL,aN]
  have a8:yg t s<L.length:=by rw[←a7];exact hp
  obtain⟨b,off,rfl,b1,_,a3⟩:=hc (by omega);obtain⟨x,ia,ic,HL,b2,c0,c1,c2,c3,c4⟩:=qs hI a3 _ a8;have hx:R.at_ t s=x:=by
   rw[a9];have:t[yg t s]'hp=(L[yg t s]'a8).1:=by subst hL;simp
   rw[this,HL.out]
  rw[hx];generalize yg t s=p at*;clear hc hI a0 a1 a3 a9 hx HL c0 a7;go_enter DU,DV;go_wp2_with fail
  refine a4.mono ?_;rintro e w1 ⟨rfl,a2⟩;have a6:=a2.size;simp only[DW]at a6;have hx:∀j u,#[Value.int .i64 0,.int .i64 0,.string ⟨#[]⟩,.slice none 0 0][j]? =some u→w1.cell? ⟨w.heap.size,j,none⟩=some u:=fun j u hu=>by
   rw[a2.cell (p:=⟨w.heap.size,j,none⟩) (by simp),DT _ _ _ _ rfl];exact hu
  have hf:∀j,w1.frozen? ⟨w.heap.size,j,none⟩=false:=fun j=>by
   rw[a2.frozen (p:=⟨w.heap.size,j,none⟩) (by simp),DX _ _ _ _ rfl]
  have x0:=hx 0 _ rfl;have x1:=hx 1 _ rfl;have x2:=hx 2 _ rfl;have x3:=hx 3 _ rfl;have f0:=hf 0;have f1:=hf 1;have f2:=hf 2;have f3:=hf 3;clear hx hf;have up:∀o u,w.cell? ⟨b,o,none⟩=some u→w1.cell? ⟨b,o,none⟩=some u:=fun o u hu=>by
   rw[a2.cell (p:=⟨b,o,none⟩) (by simp;omega),World.cell?_alloc_past _ _ _ b1];exact hu
  have d1:=up _ _ c1;have d2:=up _ _ c2;have d3:=up _ _ c3;have d4:=up _ _ c4;clear up c1 c2 c3 c4;go_wp2;obtain⟨z0,z1,z2,z3⟩:=Qi w1 w.heap.size (.int .i64 (pk x)) (.int .i64 x.n) (.string ⟨x.text.toArray⟩) (.slice ia x.items.length ic) _ _ _ _ x0 x1 x2 x3;have a5:tH w.heap.size w ((((w1.setCell ⟨w.heap.size,0,none⟩ (.int .i64 (pk x))).setCell ⟨w.heap.size,1,none⟩ (.int .i64 x.n)).setCell ⟨w.heap.size,2,none⟩ (.string ⟨x.text.toArray⟩)).setCell ⟨w.heap.size,3,none⟩ (.slice ia x.items.length ic)):=
   ((((((j0g _ _).alloc (j0a _) _).trans (a2.mono (by simp))).setCell (p:=⟨w.heap.size,0,none⟩) (j0a _) _).setCell (p:=⟨w.heap.size,1,none⟩) (j0a _) _).setCell (p:=⟨w.heap.size,2,none⟩) (j0a _) _).setCell (p:=⟨w.heap.size,3,none⟩) (j0a _) _
  generalize((((w1.setCell ⟨w.heap.size,0,none⟩ (.int .i64 (pk x))).setCell ⟨w.heap.size,1,none⟩ (.int .i64 x.n)).setCell ⟨w.heap.size,2,none⟩ (.string ⟨x.text.toArray⟩)).setCell ⟨w.heap.size,3,none⟩ (.slice ia x.items.length ic))=w9 at*;exact bodyPost_ret (v:= .agg #[(.int .i64 (pk x)),(.int .i64 x.n),(.string ⟨x.text.toArray⟩),(.slice ia x.items.length ic)]) (by simp[results,DY,go_sem,z0,z1,z2,z3]) rfl ⟨ia,ic,rfl,b2,a5⟩
theorem qZ (k:Int)(b c d:eB)(w:eX):(Instr.field 137 (.agg #[.int .i64 k,b,c,d]) 0).run sU w= .ok (.int .i64 k) w:=by
 simp[Instr.field,go_sem,asAgg]
theorem Gk (v:eB)(t:List R.Leaf)(s:List UInt8)(w:eX)(M:Nat→Prop)(h:PT w M v t)(hl:t.length≤1000000)(a0:Ys t):
  wH sU 95 #[v,.string ⟨s.toArray⟩] w fun e w' =>e= .returned (.bool ((pk (R.at_ t s)==0)&&decide (24≤t.length)))∧tH w.heap.size w w' :=by
 have ha:=UR v t s w M h hl a0;obtain⟨L,hL,⟨a,cap,rfl,hn,hm,hc⟩,hI⟩:=h;have a2:t.length=L.length:=by rw[←hL,aN]
 have a3:=z9 a2;unfold maxLen at hm;clear hc hI a0 hL a2;generalize R.at_ t s=x at*;have a5:=qZ (pk x)
 cases hk:(pk x==0)
 ·have HK:=z9 hk
  go_enter DZ,E0;go_wp2_with fail
  refine ha.mono ?_;rintro e w1 ⟨ia,ic,rfl,a4,a1⟩;go_wp2;go_ret;exact⟨zA (by simp),a1⟩
 ·have HK:=z9 hk
  go_enter DZ,E0;go_wp2_with fail
  refine ha.mono ?_;rintro e w1 ⟨ia,ic,rfl,a4,a1⟩;go_wp2;go_ret;exact⟨zA (by rw[a3.out];simp;omega),a1⟩
theorem Kt (v:eB)(t:List R.Leaf)(s:List UInt8)(k:Int)(w:eX)(M:Nat→Prop)(h:PT w M v t)(hl:t.length≤1000000)(a0:Ys t):
  wH sU 100 #[v,.string ⟨s.toArray⟩,.int .i64 k] w fun e w' =>e= .returned (.bool ((pk (R.at_ t s) !=0)&&(pk (R.at_ t s) !=k)))∧tH w.heap.size w w' :=by
 have ha:=UR v t s w M h hl a0;clear h a0;generalize R.at_ t s=x at*
 cases hk:(pk x !=0)
 all_goals
  go_enter Tryz.func100,Tryz.ntmps100;go_wp2_with fail
  refine ha.mono ?_;rintro e w1 ⟨ia,ic,rfl,a2,a1⟩;go_wp2;go_ret;exact⟨zA (by simp),a1.alloc a1.size _⟩
theorem OE (v:eB)(t:List R.Leaf)(s:List UInt8)(w:eX)(M:Nat→Prop)(h:PT w M v t)(hg:∀x∈t,x.path.length≤1000)(a6:s.length≤1000):
  wH sU 144 #[v,.string ⟨s.toArray⟩] w fun e w' =>e= .returned (.bool (R.blocked t s))∧tH w.heap.size w w' :=by
 obtain⟨L,rfl,⟨a,cap,rfl,hn,hm,hc⟩,hI⟩:=h;unfold maxLen at hm;go_enter Tryz.func144,Tryz.ntmps144;go_wp2;go_loopw [9] (fun i wr=>∃k:Nat,k≤L.length∧i= .int .i64 k∧(((L.map (·.1)).take k).any fun x=>R.leads x.path s||R.leads s x.path)=false∧tH w.heap.size w wr) (fun i _=>L.length-(intOf i).toNat)
 case atStart=>exact⟨0,wB _,rfl,rfl,j0g _ _⟩
 case round=>
  obtain⟨k,hk,rfl,a2,hb⟩:=hrel;have HA:Hid ((((L.map (·.1)).take k).any fun x=>R.leads x.path s||R.leads s x.path)=false):=a2;clear a2;by_cases a1:k<L.length
  ·obtain⟨b,off,rfl,a3,_,a0⟩:=hc (by omega)
   obtain⟨x,ia,ic,HL,a8,c0,c1,c2,c3,c4⟩:=qs hI a0 k a1;have HP:Hid ((L.map (·.1))[k]'(by simpa using a1)=x):=by show _=_;simp[HL.out]
   have a7:x.path.length≤1000:=by
    have:=hg _ (j0c (l:=L.map (·.1)) (n:=k) (by simpa using a1));rwa[HP.out]at this
   have e0:=(hb.cell (p:=⟨b,off+k*5,none⟩) a3).trans c0;have e1:=(hb.cell (p:=⟨b,off+k*5+1,none⟩) a3).trans c1;have e2:=(hb.cell (p:=⟨b,off+k*5+2,none⟩) a3).trans c2;have e3:=(hb.cell (p:=⟨b,off+k*5+3,none⟩) a3).trans c3;have e4:=(hb.cell (p:=⟨b,off+k*5+4,none⟩) a3).trans c4;have a4:=hb.size;clear a0 hc hI hg c0 c1 c2 c3 c4;have HB:Hid (∀c,(R.leads x.path s||R.leads s x.path)=c→((fun x:R.Leaf=>R.leads x.path s||R.leads s x.path) ((L.map (·.1))[k]'(by simpa using a1)))=c):=by
    intro c hc;rw[HP.out];exact hc
   go_wp2_with fail
   refine(f6 x.path s _ a7).mono ?_;rintro e w2 ⟨rfl,a5⟩;subst a5;generalize R.leads x.path s=l1 at HB⊢
   cases l1
   ·go_wp2_with fail
    refine(f6 s x.path _ a6).mono ?_;rintro e w2 ⟨rfl,a5⟩;subst a5;generalize R.leads s x.path=l2 at HB⊢
    cases l2
    ·go_wp2
     go_roundw
     case rel=>exact⟨k+1,by omega,by go_num,R.any_snoc _ _ k (by simpa using a1) HA.out (HB.out _ rfl),hb.alloc a4 _⟩
     case measure=>simp[intOf];omega
    ·go_wp2
     go_ret;exact⟨zA (R.any_hit _ _ k (by simpa using a1) (HB.out _ rfl)),hb.alloc a4 _⟩
   ·go_wp2
    go_ret;exact⟨zA (R.any_hit _ _ k (by simpa using a1) (HB.out _ rfl)),hb.alloc a4 _⟩
  ·go_wp2
   go_ret;exact⟨zA (R.any_end _ _ k (by simpa using a1) HA.out),hb⟩
theorem J5 (v:eB)(t:List R.Leaf)(s:List UInt8)(k:Int)(w:eX)(M:Nat→Prop)(h:PT w M v t)(hl:t.length≤1000000)(a0:Ys t)(hg:∀x∈t,x.path.length≤1000)(a3:s.length≤1000):
  wH sU 93 #[v,.string ⟨s.toArray⟩,.int .i64 k] w fun e w' =>e= .returned (.int .i64 (if((pk (R.at_ t s) !=0)&&(pk (R.at_ t s) !=k))=true then 6 else if R.blocked t s=true then 7 else 0))∧tH w.heap.size w w' :=by
 have ha:=Kt v t s k w M h hl a0;have hb:=fun W (hW:tH w.heap.size w W)=>OE v t s W M (h.below hW) hg a3
 clear h a0 hg;generalize((pk (R.at_ t s) !=0)&&(pk (R.at_ t s) !=k))=o at*;generalize R.blocked t s=bb at*
 cases o
 ·cases bb
  all_goals
   go_enter E3,E4;go_wp2_with fail
   refine ha.mono ?_;rintro e w1 ⟨rfl,a1⟩;go_wp2_with fail
   refine(hb _ a1).mono ?_;rintro e w2 ⟨rfl,a2⟩;go_wp2;go_ret;exact⟨rfl,a1.trans (a2.mono a1.size)⟩
 ·go_enter E3,E4
  go_wp2_with fail
  refine ha.mono ?_;rintro e w1 ⟨rfl,a1⟩;go_wp2;go_ret;exact⟨rfl,a1⟩
theorem QG (x:R.Leaf)(iv:eB)(s:List UInt8)(w:eX)(M:Nat→Prop)(h:It w M (x,iv))(hl:x.items.length≤1000000)(a0:Zb x.items):
  wH sU 101 #[.agg #[.int .i64 (pk x),.int .i64 x.n,.string ⟨x.text.toArray⟩,iv],.string ⟨s.toArray⟩] w fun e w' =>e= .returned (.bool (x.items.any fun y=>y==s))∧tH w.heap.size w w' :=by
 obtain⟨ia,ic,a2,h1,h2,h3⟩:=h;dsimp only at a2 h1 h2 h3;subst a2;have a1:It w M (x,.slice ia x.items.length ic):=⟨ia,ic,rfl,h1,h2,h3⟩
 have a3:=fun W (hW:tH w.heap.size w W)=>Yi (.slice ia x.items.length ic) x.items s W M (Rd.below a1 hW) hl a0 (a0.mono s)
 clear h1 h2 h3 a1 a0;go_enter Tryz.func101,Tryz.ntmps101;go_wp2_with fail
 refine(a3 _ ((j0g _ _).alloc (j0a _) _)).mono ?_;rintro e w1 ⟨rfl,a4⟩;subst a4;go_wp2;go_ret;exact⟨rfl,(j0g _ _).alloc (j0a _) _⟩
structure Zp (w:eX):Prop where
 mx:∃m:Int,w.cell? ⟨0,0,none⟩=some (.int .i64 m)
 tab:E5 sU w "internal/strconv.uint64pow10" .u64 Lib.pow10Tab
 size:6≤w.heap.size
theorem Oo:Tryz.prog.globalNamed "internal/strconv.uint64pow10" =some 1:=by kernel_rfl
theorem Zp.kept {w w' :eX}{O:Nat→Prop}(h:Zp w)(hk:zf O w w')(hO:∀b,O b→6≤b):Zp w' :=by
 have hs:=h.size;refine⟨?_,?_,j0f hs hk.size⟩
 ·obtain⟨m,hm⟩:=h.mx
  exact⟨m,by rw[hk.cell (p:=⟨0,0,none⟩) (by show 0<_;omega) (fun e=>by have:=hO 0 e;omega)];exact hm⟩
 ·have ht:=h.tab
  unfold E5 World.var? at ht⊢;rw[Oo]at ht⊢;simp only[Option.bind_some]at ht⊢;rw[hk.block 1 (by omega) (fun e=>by have:=hO 1 e;omega)];exact ht
theorem Zp.below {w w' :eX}(h:Zp w)(hb:tH w.heap.size w w'):Zp w' :=h.kept (O:=fun _=>False) (zf.of_below hb) (fun _ e=>e.elim)
theorem Gz (w:eX)(q:Nat)(os:Array Obj):tH w.heap.size w (Sort.grow (w.drewN q) os):=
 ⟨rfl,rfl,rfl,by simp[Sort.grow,E6],fun k hk=>by simp[Sort.grow,E6,Array.getElem?_append_left hk]⟩
theorem BE (n:Int)(w:eX)(hG:Zp w)(h0: -9223372036854775808≤n)(h1:n≤9223372036854775807):
  wH sU 141 #[.int .i64 n] w fun e w' =>e= .returned (.string ⟨(nJ n).toArray⟩)∧tH w.heap.size w w' :=by
 refine(Tryz.strconv_Itoa n h0 h1 w hG.tab).mono ?_;rintro e w' ⟨rfl,k,os,rfl⟩;exact⟨rfl,Gz w k os⟩
theorem GY (l:List (List UInt8)):E7 l [59]=R.joinI l:=by
 match l with
 |[]=>rfl
 |x::r=>
  rw[E8,R.joinI_eq];congr 1
  clear x;induction r with
  |nil=>rfl
  |cons y r ih=>simp only[E9,DM,EB]at ih⊢;rw[ih,R.joinF];rfl
theorem BD (l:List (List UInt8))(iv:eB)(w:eX)(M:Nat→Prop)(h:Rd w M iv l.length (l.map S))(hl:l.length≤100)(hi:∀i∈l,i.length≤1000):
  wH sU 142 #[iv,.string ⟨[(59:UInt8)].toArray⟩] w fun e w' =>e= .returned (.string ⟨(R.joinI l).toArray⟩)∧tH w.heap.size w w' :=by
 obtain⟨a,cap,rfl,hn,hm,hc⟩:=h;rcases lG l.length with h0|h0
 ·have a3:l=[]:=wR h0
  subst a3;refine(ED a cap _ w).mono ?_;rintro e w' ⟨rfl,rfl⟩;exact⟨rfl,j0g _ _⟩
 ·obtain⟨b,off,rfl,hb,_,a0⟩:=hc h0
  have a1:(l.map fun x=>(⟨x.toArray⟩:ByteArray)).map (·.data.toList)=l:=by rw[DP];exact(aQ (fun x _=>by simp)).trans (EE l)
  have hj:=EF b off cap (l.map fun x=>(⟨x.toArray⟩:ByteArray)) ⟨[(59:UInt8)].toArray⟩ w (fun j x hx=>by
   rw[sZ]at hx
   cases hq:l[j]? with
   |none=>rw[hq]at hx;simp at hx
   |some y=>
    rw[hq]at hx;simp at hx;subst hx;exact a0 j _ (by rw[sZ,hq];rfl)) hb (by rw[aN];omega) (by rw[aN];exact hn) (by
    rw[a1];have:=R.joinI_length l hi;have e:E7 l [59]=R.joinI l:=GY l;simp only;rw[e];omega)
  rw[a1,aN]at hj;refine hj.mono ?_;rintro e w' ⟨rfl,a2⟩;exact⟨by simp only;rw[GY l],a2⟩
theorem B6 {x:R.Leaf}(h:OkL x):(pk x=1∧R.written x=35::nJ x.n)∨(pk x=2∧R.written x=61::x.text)∨(pk x=3∧R.written x=42::R.joinI x.items):=by
 unfold pk R.written;rcases h.kind with h|h|h<;>rw[h.1]<;>simp
theorem Gg (x:R.Leaf)(iv:eB)(w:eX)(M:Nat→Prop)(h:It w M (x,iv))(a0:OkL x)(hG:Zp w):
  wH sU 89 #[.agg #[.int .i64 (pk x),.int .i64 x.n,.string ⟨x.text.toArray⟩,iv]] w fun e w' =>e= .returned (.string ⟨(R.written x).toArray⟩)∧tH w.heap.size w w' :=by
 have hI:=fun W (hW:tH w.heap.size w W)=>BE x.n W (hG.below hW) (by have:=a0.lo;omega) (by have:=a0.hi;omega)
 have hJ:=fun W (hW:tH w.heap.size w W)=>BD x.items iv W M (Rd.below h hW) (by have:=a0.many;omega) (fun i hi=>by have:=Zs _ (a0.item i hi).1;omega)
 have a3:=Lib.itoa_length_le x.n (by have:=a0.lo;omega) (by have:=a0.hi;omega);have a6:=Zs _ a0.text;have a4:=R.joinI_length x.items (fun i hi=>by have:=Zs _ (a0.item i hi).1;omega);have a5:=a0.many;obtain⟨ia,ic,a2,_,_,_⟩:=h;dsimp only at a2;subst a2;rcases B6 a0 with⟨hp,hw⟩|⟨hp,hw⟩|⟨hp,hw⟩
 ·rw[hp,hw]
  clear hp hw a0 hG hJ;generalize nJ x.n=d at*;go_enter EG,EH;go_wp2_with fail
  refine(hI _ ((j0g _ _).alloc (j0a _) _)).mono ?_;rintro e w1 ⟨rfl,a1⟩;go_wp2;go_ret;exact⟨Yj (by first|rfl|(simp;done)|(trace_state;fail)),((j0g _ _).alloc (j0a _) _).trans (a1.mono (by simp))⟩
 ·rw[hp,hw]
  clear hp hw a0 hG hJ hI;go_enter EG,EH;go_wp2;go_ret;exact⟨Yj (by first|rfl|(simp;done)|(trace_state;fail)),(j0g _ _).alloc (j0a _) _⟩
 ·rw[hp,hw]
  clear hp hw a0 hG hI;generalize R.joinI x.items=d at*;go_enter EG,EH;go_wp2_with fail
  refine(hJ _ ((j0g _ _).alloc (j0a _) _)).mono ?_;rintro e w1 ⟨rfl,a1⟩;go_wp2;go_ret;exact⟨Yj (by first|rfl|(simp;done)|(trace_state;fail)),((j0g _ _).alloc (j0a _) _).trans (a1.mono (by simp))⟩
theorem vk (a b:List (R.Leaf×eB)):zI (a++b)=zI a++zI b:=by simp[zI]
theorem Qp:∀(L:List (R.Leaf×eB)) (k:Nat),zI (L.take k)=(zI L).take (k*5)
 |[],k=>by simp[zI]
 |p::r,0=>by simp[zI]
 |p::r,k+1=>by
  have ih:=Qp r k;unfold zI PC at ih⊢;rw[List.take_succ_cons,rL,ih,rL,show(k+1)*5=k*5+5 from by omega];simp
theorem Qq:∀(L:List (R.Leaf×eB)) (k:Nat),zI (L.drop k)=(zI L).drop (k*5)
 |[],k=>by simp[zI]
 |p::r,0=>by simp
 |p::r,k+1=>by
  have ih:=Qq r k;unfold zI PC at ih⊢;rw[List.drop_succ_cons,ih,rL,show(k+1)*5=k*5+5 from by omega];simp
theorem Jh:∀(L:List (R.Leaf×eB)) (i:Nat) (h:i<L.length) (y:R.Leaf) (iv:eB),(L[i]'h).1.path=y.path→
  zI (L.set i (y,iv))=((((zI L).set (i*5+1) (.int .i64 (pk y))).set (i*5+2) (.int .i64 y.n)).set (i*5+3) (.string ⟨y.text.toArray⟩)).set (i*5+4) iv
 |p::r,0,_,y,iv,he=>by simp at he;simp[zI,PC,he]
 |p::r,i+1,h,y,iv,he=>by
  have ih:=Jh r i (by simpa using h) y iv (by simpa using he);unfold zI at ih⊢;simp only[List.set_cons_succ,rL];rw[ih,show(i+1)*5+1=(i*5+1)+5 from by omega,show(i+1)*5+2=(i*5+2)+5 from by omega,show(i+1)*5+3=(i*5+3)+5 from by omega,show(i+1)*5+4=(i*5+4)+5 from by omega];simp[PC]
theorem uA (v:eB)(t:List R.Leaf)(s:List UInt8)(w:eX)(M:Nat→Prop)(hM:∀b,M b→b<w.heap.size)(h:PT w M v t)(a1:OkT t)(hs:R.isPath s=true):
  wH sU 114 #[v,.string ⟨s.toArray⟩] w fun e w' =>∃v',e= .returned v' ∧PT w' M v' (R.set t (R.none s))∧tH w.heap.size w w' :=by
 have a8:=a1.few;have a3:=UN v t s w M h (by omega) a1.sort;have a4:=fun W (hW:tH w.heap.size w W)=>Ke v t W M (h.below hW) (by omega)
 cases a0:(t.any fun x=>x.path==s)
 ·rw[a0]at a3
  rw[set_same a1 (R.none s) hs rfl a0];have HT:=z9 h;clear a4 a1 h;go_enter EI,EJ;go_wp2_with fail
  refine a3.mono ?_;rintro e w1 ⟨rfl,a2⟩;go_wp2;go_ret;exact⟨_,rfl,HT.out.below a2,a2⟩
 ·rw[a0]at a3
  have HS:Hid (R.set t (R.none s)=t.take (yg t s)++t.drop (yg t s+1)):=CN a1 (R.none s) hs rfl a0;have b6:yg t s<t.length:=(YX (k:=R.Leaf.path) a1.sort.k a0).1;clear a1 h;generalize yg t s=p at*;go_enter EI,EJ;go_wp2_with fail
  refine a3.mono ?_;rintro e w1 ⟨rfl,a2⟩;go_wp2_with fail
  refine(a4 _ a2).mono ?_;rintro e w2 ⟨L,v2,hL,rfl,ho,hI,a7⟩;have b5:L.length=t.length:=by rw[←hL,aN]
  have hD:=cg D1 v2 L.length p w1.heap.size (zI L) w2 ho (by omega) (vZ L hI);have HO:=z9 ho;have b3:=a2.size;have b4:=a7.size;clear ho a4;go_wp2_with fail
  refine hD.mono ?_;rintro e w3 ⟨v3,rfl,b1,a9,_⟩;have a6:tH w1.heap.size w1 w3:=a7.grown a9 b4 (fun k hk=>(HO.out.lt k hk).1);go_wp2;go_ret;refine⟨v3,rfl,⟨L.take p++L.drop (p+1),?_,?_,?_⟩,a2.trans (a6.mono b3)⟩
  ·rw[HS.out,←hL,tB,tJ,tK]
  ·have a5:(L.take p++L.drop (p+1)).length=L.length-1:=by simp only[nL,pZ,rA];omega
   rw[a5,vk,Qp,Qq];exact Rd.of_owns b1 (fun b hb=>by have:=hM b hb;omega)
  ·intro q hq
   have b2 :q∈L:=by
    rcases iZ.1 hq with h|h
    ·exact rO h
    ·exact rP h
   exact Rd.below (hI q b2) a6
theorem UK (tv:eB)(t:List R.Leaf)(y:R.Leaf)(iv:eB)(w:eX)(M:Nat→Prop)(hM:∀b,M b→b<w.heap.size)(h:PT w M tv t)(a5:OkT t)(hs:R.isPath y.path=true)(hy:It w M (y,iv))(d9:y.kind=0∨OkL y)(d8:y.kind=0→pk y=0):
  wH sU 96 #[tv,.string ⟨y.path.toArray⟩,.agg #[.int .i64 (pk y),.int .i64 y.n,.string ⟨y.text.toArray⟩,iv]] w fun e w' =>∃v',e= .returned v' ∧PT w' M v' (R.set t y)∧tH w.heap.size w w' :=by
 have f9:=a5.few;obtain⟨ia,ic,f0,_,_,_⟩:=id hy;dsimp only at f0;subst f0;by_cases a8:y.kind=0
 ·have c9:R.set t y=R.set t (R.none y.path):=by
   rw[qW a5 y hs a8,qW a5 (R.none y.path) hs rfl];rfl
  have g7:=fun W (hW:tH w.heap.size w W)=>uA tv t y.path W M (fun b hb=>by have:=hM b hb;have:=hW.size;omega) (h.below hW) a5 hs
  rw[c9,d8 a8];clear a5 h c9 hy d9 d8 a8;go_enter EK,EL;go_wp2_with fail
  refine(g7 _ ((j0g _ _).alloc (j0a _) _)).mono ?_;rintro e w1 ⟨v1,rfl,g4,a0⟩;go_wp2;go_ret;exact⟨v1,rfl,g4,((j0g _ _).alloc (j0a _) _).trans (a0.mono (by simp))⟩
 ·have b5:OkL y:=d9.resolve_left a8
  have i0:(pk y==0)=false:=by rcases B6 b5 with h|h|h<;>rw[h.1]<;>rfl
  have b7:=fun W (hW:tH w.heap.size w W)=>UN tv t y.path W M (h.below hW) (by omega) a5.sort
  have d5:=fun W (hW:tH w.heap.size w W)=>Ke tv t W M (h.below hW) (by omega)
  have HY:=z9 hy
  cases a1:(t.any fun x=>x.path==y.path)
  ·rw[a1]at b7
   have HS:Hid (R.set t y=t.take (yg t y.path)++y::t.drop (yg t y.path)):=ju a5 y hs a8 a1;have b6:yg t y.path≤t.length:=List.findIdx_le_length;clear a5 h hy d9 d8 b5 a8;generalize yg t y.path=p at*;go_enter EK,EL;go_wp2_with fail
   refine(b7 _ ((j0g _ _).alloc (j0a _) _)).mono ?_;rintro e w1 ⟨rfl,a0⟩;have a4:tH w.heap.size w w1:=((j0g _ _).alloc (j0a _) _).trans (a0.mono (by simp));have b0:w1.cell? ⟨w.heap.size,0,none⟩=some (.int .i64 (pk y)):=by rw[a0.cell (p:=⟨w.heap.size,0,none⟩) (by simp)];simp
   have b1:w1.cell? ⟨w.heap.size,1,none⟩=some (.int .i64 y.n):=by rw[a0.cell (p:=⟨w.heap.size,1,none⟩) (by simp)];simp
   have b2:w1.cell? ⟨w.heap.size,2,none⟩=some (.string ⟨y.text.toArray⟩):=by rw[a0.cell (p:=⟨w.heap.size,2,none⟩) (by simp)];simp
   have b3:w1.cell? ⟨w.heap.size,3,none⟩=some (.slice ia y.items.length ic):=by rw[a0.cell (p:=⟨w.heap.size,3,none⟩) (by simp)];simp
   have a6:w.heap.size+1≤w1.heap.size:=by have:=a0.size;simpa using this
   clear a0;go_wp2_with fail
   refine(d5 _ a4).mono ?_;rintro e w2 ⟨L,v2,hL,rfl,ho,hI,a3⟩;have c6:L.length=t.length:=by rw[←hL,aN]
   have f5:=a3.size;have d0:=(a3.cell (p:=⟨w.heap.size,0,none⟩) a6).trans b0;have d1:=(a3.cell (p:=⟨w.heap.size,1,none⟩) a6).trans b1;have d2:=(a3.cell (p:=⟨w.heap.size,2,none⟩) a6).trans b2;have d3:=(a3.cell (p:=⟨w.heap.size,3,none⟩) a6).trans b3;have HO:=z9 ho;have HL:=z9 hL;have b8:=z9 hI;have f6:Hid (tH w.heap.size w w2):=a4.trans (a3.mono a4.size);have e8:Hid (p≤L.length):=by rw[c6];exact b6
   have e7:=fun W (hW:tH w2.heap.size w2 W) vb (g6:W.heap[vb]? =some (.cells #[.string ⟨y.path.toArray⟩,.int .i64 (pk y),.int .i64 y.n,.string ⟨y.text.toArray⟩,.slice ia y.items.length ic] 139 (0,0))) (g2:v2.ownBlock≠some vb)=>GH d_ v2 L.length p vb w1.heap.size (zI L) #[.string ⟨y.path.toArray⟩,.int .i64 (pk y),.int .i64 y.n,.string ⟨y.text.toArray⟩,.slice ia y.items.length ic] W (Zl HO.out hW) (by have:=hW.size;omega) e8.out (by omega) g6 rfl g2 (vZ L b8.out) (by
    intro u hu;simp only[iT,List.not_mem_nil,or_false]at hu;rcases hu with rfl|rfl|rfl|rfl|rfl<;>rfl)
   clear b0 b1 b2 b3 ho hI hL d5 b7 a1;go_wp2_with fail
   refine(e7 _ ((j0g _ _).alloc (j0a _) _) w2.heap.size (heap_alloc_new w2 _) (fun e=>by have:=(HO.out.lt _ e).2;omega)).mono ?_;rintro e w3 ⟨v3,rfl,g3,g0,_⟩;have d4:tH w1.heap.size w1 w3:=(a3.alloc f5 _).grown g0 (by simp;omega) (fun k hk=>(HO.out.lt k hk).1);go_wp2;go_ret;refine⟨v3,rfl,⟨L.take p++(y,.slice ia y.items.length ic)::L.drop p,?_,?_,?_⟩,a4.trans (d4.mono (by omega))⟩
   ·rw[HS.out,←HL.out,tB,tJ,DM,tK]
   ·have e9:(L.take p++(y,Value.slice ia y.items.length ic)::L.drop p).length=L.length+1:=by have:=e8.out;simp only[nL,pZ,nM,rA];omega
    rw[e9];have f8:zI (L.take p++(y,Value.slice ia y.items.length ic)::L.drop p)=(zI L).take (p*5)++((#[Value.string ⟨y.path.toArray⟩,.int .i64 (pk y),.int .i64 y.n,.string ⟨y.text.toArray⟩,.slice ia y.items.length ic]).toList++(zI L).drop (p*5)):=by
     rw[vk,Qp,←Qq];simp[zI,PC]
    rw[f8];exact Rd.of_owns g3 (fun b hb=>by have:=hM b hb;omega)
   ·intro q hq
    rcases iZ.1 hq with h|h
    ·exact Rd.below (b8.out q (rO h)) d4
    ·rcases iT.1 h with rfl|h
     ·exact Rd.below HY.out (a4.trans (d4.mono (by omega)))
     ·exact Rd.below (b8.out q (rP h)) d4
  ·rw[a1]at b7
   have HS:Hid (R.set t y=t.take (yg t y.path)++y::t.drop (yg t y.path+1)):=Ug a5 y hs a8 a1;obtain⟨b6,a9⟩:=YX (k:=R.Leaf.path) a5.sort.k a1;change yg t y.path<t.length at b6
   have b9:Hid (∀h:yg t y.path<t.length,(t[yg t y.path]'h).path=y.path):=fun _=>a9
   clear a5 h hy d9 d8 b5 a8 a9;generalize yg t y.path=p at*;go_enter EK,EL;go_wp2_with fail
   refine(b7 _ ((j0g _ _).alloc (j0a _) _)).mono ?_;rintro e w1 ⟨rfl,a0⟩;have a4:tH w.heap.size w w1:=((j0g _ _).alloc (j0a _) _).trans (a0.mono (by simp));have b0:w1.cell? ⟨w.heap.size,0,none⟩=some (.int .i64 (pk y)):=by rw[a0.cell (p:=⟨w.heap.size,0,none⟩) (by simp)];simp
   have b1:w1.cell? ⟨w.heap.size,1,none⟩=some (.int .i64 y.n):=by rw[a0.cell (p:=⟨w.heap.size,1,none⟩) (by simp)];simp
   have b2:w1.cell? ⟨w.heap.size,2,none⟩=some (.string ⟨y.text.toArray⟩):=by rw[a0.cell (p:=⟨w.heap.size,2,none⟩) (by simp)];simp
   have b3:w1.cell? ⟨w.heap.size,3,none⟩=some (.slice ia y.items.length ic):=by rw[a0.cell (p:=⟨w.heap.size,3,none⟩) (by simp)];simp
   have a6:w.heap.size+1≤w1.heap.size:=by have:=a0.size;simpa using this
   clear a0;go_wp2_with fail
   refine(d5 _ a4).mono ?_;rintro e w2 ⟨L,v2,hL,rfl,ho,hI,a3⟩;have c6:L.length=t.length:=by rw[←hL,aN]
   have f5:=a3.size;have d0:=(a3.cell (p:=⟨w.heap.size,0,none⟩) a6).trans b0;have d1:=(a3.cell (p:=⟨w.heap.size,1,none⟩) a6).trans b1;have d2:=(a3.cell (p:=⟨w.heap.size,2,none⟩) a6).trans b2;have d3:=(a3.cell (p:=⟨w.heap.size,3,none⟩) a6).trans b3;have HO:=z9 ho;have HL:=z9 hL;have b8:=z9 hI;have f6:Hid (tH w.heap.size w w2):=a4.trans (a3.mono a4.size);have e8:Hid (p≤L.length):=by rw[c6];exact Nat.le_of_lt b6
   have d7:p<L.length:=by rw[c6];exact b6
   obtain⟨a2,c2,rfl,h0,g1,c8,b4⟩:=zh ho
   cases a2 with
   |none=>have:=(c8 rfl).1;omega
   |some ad=>
    obtain⟨g,rfl,d6,g9,c7,a7⟩:=b4 ad rfl;obtain⟨e0,e1,e2,e3,e4⟩:=B8 (off:=0) (by simpa using a7) p d7;simp only[lQ]at e0 e1 e2 e3 e4;have f1:=c7 (p*5+1);have f2:=c7 (p*5+2);have f3:=c7 (p*5+3);have f4:=c7 (p*5+4);unfold maxLen at g1;clear b0 b1 b2 b3 ho hI hL d5 b7 a1 a7 c7 b4 c8;have g8:=vi L;have o1:=Xo HO.out (p*5+1) (by omega) (.int .i64 (pk y));have o2:=Xo o1 (p*5+2) (by rw[tE];omega) (.int .i64 y.n);have o3:=Xo o2 (p*5+3) (by rw[tE,tE];omega) (.string ⟨y.text.toArray⟩);have o4:=Xo o3 (p*5+4) (by rw[tE,tE,tE];omega) (.slice ia y.items.length ic);have g5:(L[p]'d7).1.path=y.path:=by
     have:=b9.out b6;simp only[←HL.out,List.getElem_map]at this;exact this
    rw[←Jh L p d7 y (.slice ia y.items.length ic) g5]at o4;have f7:=z9 o4;have e6:Hid (tH w1.heap.size w1 ((((w2.setCell ⟨g,p*5+1,none⟩ (.int .i64 (pk y))).setCell ⟨g,p*5+2,none⟩ (.int .i64 y.n)).setCell ⟨g,p*5+3,none⟩ (.string ⟨y.text.toArray⟩)).setCell ⟨g,p*5+4,none⟩ (.slice ia y.items.length ic))):=
     (((a3.setCell (p:=⟨g,p*5+1,none⟩) d6 _).setCell (p:=⟨g,p*5+2,none⟩) d6 _).setCell (p:=⟨g,p*5+3,none⟩) d6 _).setCell (p:=⟨g,p*5+4,none⟩) d6 _
    clear o1 o2 o3 o4 g8;go_wp2;go_ret;refine⟨_,rfl,⟨L.set p (y,.slice ia y.items.length ic),?_,?_,?_⟩,a4.trans (e6.out.mono (by omega))⟩
    ·rw[HS.out,←HL.out,List.map_set,List.set_eq_take_append_cons_drop,if_pos (by simpa using d7)]
    ·rw[tE,←c6]
     exact Rd.of_owns f7.out (fun b hb=>by have:=hM b hb;omega)
    ·intro q hq
     rcases List.mem_or_eq_of_mem_set hq with h|rfl
     ·exact Rd.below (b8.out q h) e6.out
     ·exact Rd.below HY.out (a4.trans (e6.out.mono (by omega)))
theorem KF (b n c d:eB)(w:eX):(Instr.field 137 (.agg #[b,n,c,d]) 1).run sU w= .ok n w:=by
 simp[Instr.field,go_sem,asAgg]
structure AtX (x:R.Leaf)(s:List UInt8):Prop where
 ok:x=R.none s∨OkL x
 path:x.path=s
theorem atX {t:List R.Leaf}(h:OkT t)(s:List UInt8):AtX (R.at_ t s) s:=by
 refine⟨Bd h s,?_⟩;rcases Vb t s with⟨_,e⟩|⟨_,_,e⟩
 ·rw[e];rfl
 ·exact e
theorem AtX.kinds {x:R.Leaf}{s:List UInt8}(h:AtX x s):(x.kind=0∧pk x=0∧x=R.none s)∨(x.kind=35∧pk x=1∧OkL x)∨(x.kind=61∧pk x=2∧OkL x)∨(x.kind=42∧pk x=3∧OkL x):=by
 rcases h.ok with h|h
 ·subst h;exact .inl ⟨rfl,rfl,rfl⟩
 ·rcases h.kind with k|k|k
  ·exact .inr (.inl ⟨k.1,by simp[pk,k.1],h⟩)
  ·exact .inr (.inr (.inl ⟨k.1,by simp[pk,k.1],h⟩))
  ·exact .inr (.inr (.inr ⟨k.1,by simp[pk,k.1],h⟩))
theorem AtX.oth {x:R.Leaf}{s:List UInt8}(h:AtX x s)(k kk:Int)(hk:(k=1∧kk=35)∨(k=2∧kk=61)∨(k=3∧kk=42)):((pk x !=0)&&(pk x !=k))=decide (x.kind≠0∧x.kind≠kk):=by
 rcases hk with⟨rfl,rfl⟩|⟨rfl,rfl⟩|⟨rfl,rfl⟩<;>rcases h.kinds with k|k|k|k<;>(rw[k.1,k.2.1];decide)
theorem AtX.zero {x:R.Leaf}{s:List UInt8}(h:AtX x s):(pk x==0)=decide (x.kind=0):=by
 rcases h.kinds with k|k|k|k<;>(rw[k.1,k.2.1];decide)
theorem AtX.num {x:R.Leaf}{s:List UInt8}(h:AtX x s): -1000000000≤x.n∧x.n≤1000000000:=by
 rcases h.ok with h|h
 ·subst h;simp[R.none]
 ·exact⟨h.lo,h.hi⟩
theorem ZA {v:eB}{a b:Int}(h:b=a):Ending.returned (.tuple #[v,.int .i64 a])= .returned (.tuple #[v,.int .i64 b]):=by rw[h]
def Qt (w w' :eX)(M:Nat→Prop)(e:Ending)(t:List R.Leaf)(r:Int×R.Leaf):Prop:=
 ∃va vn vc,e= .returned (.tuple #[.slice va vn vc,.int .i64 r.1])∧(r.1=0→PT w' M (.slice va vn vc) (R.set t r.2))∧tH w.heap.size w w'
theorem Y2 {w:eX}{M:Nat→Prop}{v:eB}{t:List R.Leaf}(h:PT w M v t):∃a c,v= .slice a t.length c:=by
 obtain⟨L,rfl,⟨a,c,rfl,_⟩,_⟩:=h;exact⟨a,c,by simp⟩
theorem cR (w:eX)(M:Nat→Prop)(y:R.Leaf)(h:y.items=[]):It w M (y,.slice none 0 0):=by
 refine⟨none,0,?_,?_,?_,?_⟩
 ·simp[h]
 ·simp[h]
 ·unfold maxLen;omega
 ·intro hh;simp[h]at hh
theorem Bb (v:eB)(t:List R.Leaf)(s:List UInt8)(n:Int)(w:eX)(M:Nat→Prop)(hM:∀b,M b→b<w.heap.size)(h:PT w M v t)(a4:OkT t)(hs:R.isPath s=true)(d3:n≤9223372036854775807)(d4: -9223372036854775808≤n):
  wH sU 57 #[v,.string ⟨s.toArray⟩,.int .i64 n] w fun e w' =>Qt w w' M e t (R.addV t (R.at_ t s) s n):=by
 have b8:=a4.few;have b9:s.length≤1000:=by have:=Y7 _ hs;omega
 have b3:∀x∈t,x.path.length≤1000:=fun x hx=>(a4.ok x hx).good.path
 have a1:=J5 v t s 1 w M h (by omega) a4.sort b3 b9;have b1:=fun W (hW:tH w.heap.size w W)=>UR v t s W M (h.below hW) (by omega) a4.sort
 have a8:=fun W (hW:tH w.heap.size w W)=>Gk v t s W M (h.below hW) (by omega) a4.sort
 have a2:=atX a4 s;have a3:=fun(x:R.Leaf) W (hW:tH w.heap.size w W) (a0:n≤1000000000-x.n) (a7: -1000000000-x.n≤n)=>UK v t {path:=s,kind:=35,n:=x.n+n,text:=[],items:=[]} (.slice none 0 0) W M (fun b hb=>by have:=hM b hb;have:=hW.size;omega) (h.below hW) a4 hs (cR W M _ rfl) (.inr ⟨hs,.inl ⟨rfl,rfl,rfl⟩,by simp only;omega,by simp only;omega,rfl,by simp,by simp,fun i j hi=>by simp at hi⟩) (by simp)
 clear h a4 b3;generalize R.at_ t s=x at*;obtain⟨c9,c8⟩:=a2.num;have a5 :=a3 x;clear a3;by_cases c1:x.kind≠0∧x.kind≠35
 ·have e1:((pk x !=0)&&(pk x !=1))=true:=by
   rw[a2.oth 1 35 (by simp)];exact decide_eq_true c1
  have HR:Hid (R.addV t x s n=(6,x)):=by show _=_;rw[R.addV,if_pos c1]
  rw[e1]at a1;simp only[if_true]at a1;clear a2 c1 e1;go_enter EM,EN;go_wp2_with fail
  refine a1.mono ?_;rintro e w1 ⟨rfl,a0⟩;go_wp2;go_ret2;exact⟨none,0,0,ZA (by rw[HR.out]),(fun h=>by rw[HR.out]at h;cases h),a0⟩
 have e1:((pk x !=0)&&(pk x !=1))=false:=by
  rw[a2.oth 1 35 (by simp)];exact decide_eq_false c1
 rw[e1]at a1;simp only[Bool.false_eq_true,if_false]at a1;by_cases c2:R.blocked t s=true
 ·have HR:Hid (R.addV t x s n=(7,x)):=by show _=_;rw[R.addV,if_neg c1,if_pos c2]
  rw[if_pos c2]at a1;clear a2 c1 e1 c2;go_enter EM,EN;go_wp2_with fail
  refine a1.mono ?_;rintro e w1 ⟨rfl,a0⟩;go_wp2;go_ret2;exact⟨none,0,0,ZA (by rw[HR.out]),(fun h=>by rw[HR.out]at h;cases h),a0⟩
 rw[if_neg c2]at a1;have c7:=KF (.int .i64 (pk x)) (.int .i64 x.n);by_cases c3:1000000000-x.n<n∨n< -1000000000-x.n
 ·have HR:Hid (R.addV t x s n=(8,x)):=by show _=_;rw[R.addV,if_neg c1,if_neg c2,if_pos c3]
  clear a2 c1 e1 c2;go_enter EM,EN;go_wp2_with fail
  refine a1.mono ?_;rintro e w1 ⟨rfl,a0⟩;go_wp2_with fail
  refine(b1 _ a0).mono ?_;rintro e w2 ⟨ia,ic,rfl,b4,a7⟩;by_cases c6 :1000000000-x.n<n
  ·go_wp2
   go_ret2;exact⟨none,0,0,ZA (by rw[HR.out]),(fun h=>by rw[HR.out]at h;cases h),a0.trans (a7.mono a0.size)⟩
  ·have b6 :n< -1000000000-x.n:=by omega
   go_wp2;go_ret2;exact⟨none,0,0,ZA (by rw[HR.out]),(fun h=>by rw[HR.out]at h;cases h),a0.trans (a7.mono a0.size)⟩
 have d1:n≤1000000000-x.n:=by omega
 have d2: -1000000000-x.n≤n:=by omega
 by_cases c4:x.kind=0∧24≤t.length
 ·have HR:Hid (R.addV t x s n=(4,x)):=by show _=_;rw[R.addV,if_neg c1,if_neg c2,if_neg c3,if_pos c4]
  have e4:((pk x==0)&&decide (24≤t.length))=true:=by
   rw[a2.zero,decide_eq_true c4.1,decide_eq_true c4.2];rfl
  rw[e4]at a8;clear a2 c1 e1 c2 c3 c4 e4;go_enter EM,EN;go_wp2_with fail
  refine a1.mono ?_;rintro e w1 ⟨rfl,a0⟩;go_wp2_with fail
  refine(b1 _ a0).mono ?_;rintro e w2 ⟨ia,ic,rfl,b4,a7⟩;have a6:=a0.trans (a7.mono a0.size);go_wp2_with fail
  refine(a8 _ a6).mono ?_;rintro e w3 ⟨rfl,b2⟩;go_wp2;go_ret2;exact⟨none,0,0,ZA (by rw[HR.out]),(fun h=>by rw[HR.out]at h;cases h),a6.trans (b2.mono a6.size)⟩
 have HR:Hid (R.addV t x s n=(0,{path:=s,kind:=35,n:=x.n+n,text:=[],items:=[]})):=by show _=_;rw[R.addV,if_neg c1,if_neg c2,if_neg c3,if_neg c4]
 have e4:((pk x==0)&&decide (24≤t.length))=false:=by
  rw[a2.zero,←Bool.decide_and];exact decide_eq_false c4
 rw[e4]at a8;clear a2 c1 e1 c2 c3 c4 e4;go_enter EM,EN;go_wp2_with fail
 refine a1.mono ?_;rintro e w1 ⟨rfl,a0⟩;go_wp2_with fail
 refine(b1 _ a0).mono ?_;rintro e w2 ⟨ia,ic,rfl,b4,a7⟩;have a6:=a0.trans (a7.mono a0.size);go_wp2_with fail
 refine(a8 _ a6).mono ?_;rintro e w3 ⟨rfl,b2⟩;have a9:=a6.trans (b2.mono a6.size);go_wp2_with fail
 refine(a5 _ a9 d1 d2).mono ?_;rintro e w4 ⟨v4,rfl,b5,b7⟩;obtain⟨va,vc,rfl⟩:=Y2 b5;go_wp2;go_ret2;exact⟨va,_,vc,ZA (by rw[HR.out]),(fun _=>by rw[HR.out];exact b5),a9.trans (b7.mono a9.size)⟩
theorem BuilderAt.below {T e:TypeId}{B b:Nat}{p:eB}{bs:List eB}{w w' :eX}(h:EO T e B b p bs w)(hb:tH w.heap.size w w'):EO T e B b p bs w' :=by
 have hl:=h.lt;obtain⟨h1,v,h2,h3,h4⟩:=h;exact⟨h1,v,by rw[hb.block b hl];exact h2,Zl h3 hb,h4⟩
theorem IsBuilder.below {T e:TypeId}{B b:Nat}{bs:List eB}{w w' :eX}(h:EP T e B b bs w)(hb:tH w.heap.size w w'):EP T e B b bs w' :=by
 rcases h with h|h
 ·exact .inl (BuilderAt.below h hb)
 ·exact .inr (BuilderAt.below h hb)
theorem Jo (B b:Nat)(bs:List eB)(s:ByteArray)(w:eX)(h:EP 134 5 B b bs w)(a0:bs.length+s.size≤140737488355328)(a1:B≤w.heap.size):
  wH sU 88 #[.pointer (some ⟨b,0,none⟩),.string s] w fun e w' =>e= .returned (.tuple #[.int .i64 s.size,.nilIface])∧(EO 134 5 B b (.pointer (some ⟨b,0,none⟩)) (bs++Lib.strCells s) w' ∧tH B w w'):=
 Any.Builder_WriteString {EQ with} ER B b bs s w h a0 a1
theorem YG (v:eB)(t:List R.Leaf)(w:eX)(M:Nat→Prop)(h:PT w M v t)(hg:∀x∈t,OkL x)(hl:t.length≤1000)(hG:Zp w):
  wH sU 50 #[v] w fun e w' =>e= .returned (.string ⟨(R.Written t).toArray⟩)∧tH w.heap.size w w' :=by
 obtain⟨L,rfl,⟨a,cap,rfl,hn,hm,hc⟩,hI⟩:=h;unfold maxLen at hm;rw[aN]at hl;go_enter Tryz.func50,Tryz.ntmps50;go_wp2;go_loopw [8] (fun i wr=>∃(k:Nat) (a0:List UInt8),k≤L.length∧i= .int .i64 k∧a0=R.Written ((L.map (·.1)).take k)∧a0.length≤k*1000000∧EP 134 5 w.heap.size w.heap.size (tG a0) wr∧tH w.heap.size w wr) (fun i _=>L.length-(intOf i).toNat)
 case atStart=>exact⟨0,[],wB _,rfl,rfl,by simp,.inl ⟨j0a _,.slice none 0 0,heap_alloc_new w _,ES _ _ _ _,by simp[Value.ownBlock]⟩,(j0g _ _).alloc (j0a _) _⟩
 case round=>
  obtain⟨k,a0,hk,rfl,he,b6,b1,hb⟩:=hrel;have HE:Hid (a0=R.Written ((L.map (·.1)).take k)):=he;have a9:Hid (EP 134 5 w.heap.size w.heap.size (tG a0) wr):=b1;clear he b1;have a8:=hb.size;by_cases a5:k<L.length
  ·obtain⟨b,off,rfl,a3,_,a1⟩:=hc (by omega)
   obtain⟨x,ia,ic,HL,b4,c0,c1,c2,c3,c4⟩:=qs hI a1 k a5;have HP:Hid ((L.map (·.1))[k]'(by simpa using a5)=x):=by show _=_;simp[HL.out]
   have a7:OkL x:=by
    have:=hg _ (j0c (l:=L.map (·.1)) (n:=k) (by simpa using a5));rwa[HP.out]at this
   have hp:=a7.good.path;have b5:=je x a7.good;clear a1 hc hI hg;have e0:=hb.cell (p:=⟨b,off+k*5,none⟩) a3;have e1:=hb.cell (p:=⟨b,off+k*5+1,none⟩) a3;have e2:=hb.cell (p:=⟨b,off+k*5+2,none⟩) a3;have e3:=hb.cell (p:=⟨b,off+k*5+3,none⟩) a3;have e4:=hb.cell (p:=⟨b,off+k*5+4,none⟩) a3;rw[c0]at e0;rw[c1]at e1;rw[c2]at e2;rw[c3]at e3;rw[c4]at e4;have HV:Hid (∀W,tH w.heap.size w W→wH sU 89 #[.agg #[.int .i64 (pk x),.int .i64 x.n,.string ⟨x.text.toArray⟩,.slice ia x.items.length ic]] W fun e w' =>e= .returned (.string ⟨(R.written x).toArray⟩)∧tH W.heap.size W w'):=fun W hW=>Gg x _ W M (Rd.below b4 hW) a7 (hG.below hW)
   clear c0 c1 c2 c3 c4;go_wp2_with fail
   have a6:Hid (tH wr.heap.size wr (wr.alloc (Obj.cells #[.string ⟨x.path.toArray⟩,.int .i64 (pk x),.int .i64 x.n,.string ⟨x.text.toArray⟩,.slice ia x.items.length ic] 139)).drew):=((j0g _ _).alloc (j0a _) _).drew;have b7:(R.line x).length≤1000000:=R.line_length x b5 hp;have q1:¬9223372036854775807<x.path.length+1:=by omega
   have q2:¬9223372036854775807<x.path.length+1+(R.written x).length:=by omega
   have q3:¬9223372036854775807<x.path.length+1+(R.written x).length+1:=by omega
   go_region_with (first
    |(go_at_call 89;refine(HV.out _ (hb.trans (a6.out.mono a8))).mono ?_;rintro e w2 ⟨rfl,a4⟩;have m0:w2.cell? ⟨wr.heap.size,0,none⟩=some (.string ⟨x.path.toArray⟩):=by(rw[a4.cell (p:=⟨wr.heap.size,0,none⟩) (by simp)];simp))
    |(go_at_call 88;go_loud (refine(Jo w.heap.size w.heap.size (tG a0) _ _ (IsBuilder.below a9.out (a6.out.trans (a4.mono (by simp)))) (by simp only[EU,ByteArray.size_append];simp only[DQ,List.size_toArray];simp;omega) (by have:=a4.size;simp at this;omega)).mono ?_;rintro e w3 ⟨rfl,a2,b3⟩)))
   all_goals
    go_wp2;go_roundw
    case rel=>
     refine⟨k+1,a0++R.line x,by omega,by go_num,?_,?_,?_,(hb.trans (a6.out.mono a8)).trans ((a4.mono (by simp;omega)).trans b3)⟩
     ·rw[R.Written_snoc _ k (by simpa using a5),HP.out,←HE.out]
     ·rw[nL];omega
     ·rw[cG [32] #[32] rfl,cG [10] #[10] rfl,jI,jI,jI,EV,←EW]at a2
      refine .inr ?_;simpa[R.line]using a2
    case measure=>simp[intOf];omega
  ·go_wp2_with fail
   refine(EX w.heap.size w.heap.size a0 _ a9.out a8).mono ?_;rintro e w1 ⟨rfl,b2⟩;go_wp2;go_ret;exact⟨Yj (by rw[HE.out,nR (by simp;omega)]),hb.trans b2⟩
def byteOf (n:Int):UInt8:=nK (n % 256).toNat
theorem qz (n:Int):((byteOf n).toNat:Int)=n % 256:=by
 unfold byteOf;rw[jp];have h1:=Int.emod_nonneg n (by decide:(256:Int)≠0);have h2:=Int.emod_lt_of_pos n (by decide:(0:Int)<256);omega
theorem y7 (n:Nat):byteOf (n:Int)=nK n:=by
 apply EY.1;have h1:=qz (n:Int);have h2:=jp n;omega
def gX:Ren:={Tryz.lays156_ren with f:=fun n=>if n=167 then 136 else Tryz.lays156_ren.f n}
theorem bw:Lays.n167 sU gX:={EQ,ER with f167:=by kernel_rfl}
theorem cp:gX.t=Tryz.lays156_ren.t:=rfl
theorem C9:Builder.Extra sU gX:=by
 have h:=ER;refine⟨⟨?_,?_⟩,?_,?_,?_,?_,?_,?_,?_,?_⟩<;>rw[cp]
 ·exact h.sizeBuilder
 ·exact h.liesBuilder
 ·exact h.t5
 ·exact h.a5
 ·exact h.z5
 ·exact h.v5
 ·exact h.infoByte
 ·exact h.cellsByte
 ·exact h.sizeByte
 ·exact h.neB5
theorem gY (w:eX)(C:Array eB)(t:TypeId)(hC:C.size≤1000):Rd (w.alloc (.cells C t)) (fun _=>False) (.slice (some ⟨w.heap.size,0,none⟩) C.size C.size) C.size C.toList:=
 ⟨_,C.size,rfl,j0a _,by unfold maxLen;omega,fun _=>⟨w.heap.size,0,rfl,by simp,fun h=>h,fun j u hu=>by
  have:=y6 w C t j u hu;have a0:(⟨w.heap.size,0,none⟩:Addr).add j=⟨w.heap.size,0+j,none⟩:=by unfold Addr.add;split<;>simp_all
  rwa[a0]at this⟩⟩
theorem oP (B b:Nat)(bs:List eB)(c:Int)(w:eX)(h:EP 134 5 B b bs w)(a0:bs.length+1≤140737488355328)(a1:B≤w.heap.size):
  wH sU 136 #[.pointer (some ⟨b,0,none⟩),.int .u8 c] w fun e w' =>e= .returned .nilIface∧(EO 134 5 B b (.pointer (some ⟨b,0,none⟩)) (bs++ [.int .u8 c]) w' ∧tH B w w'):=
 Any.Builder_WriteByte bw C9 B b bs c w h a0 a1
theorem yM (v:eB)(ns:List Int)(w:eX)(M:Nat→Prop)(h:Rd w M v ns.length (ns.map fun n=>Value.int .i64 n))(hl:ns.length≤1000):
  wH sU 86 #[v] w fun e w' =>e= .returned (.string ⟨(ns.map byteOf).toArray⟩)∧tH w.heap.size w w' :=by
 obtain⟨a,cap,rfl,hn,hm,hc⟩:=h;unfold maxLen at hm;go_enter Tryz.func86,Tryz.ntmps86;go_wp2;go_loopw [8] (fun i wr=>∃(k:Nat),k≤ns.length∧i= .int .i64 k∧EP 134 5 w.heap.size w.heap.size (tG ((ns.take k).map byteOf)) wr∧tH w.heap.size w wr) (fun i _=>ns.length-(intOf i).toNat)
 case atStart=>exact⟨0,wB _,rfl,.inl ⟨j0a _,.slice none 0 0,heap_alloc_new w _,ES _ _ _ _,by simp[Value.ownBlock]⟩,(j0g _ _).alloc (j0a _) _⟩
 case round=>
  obtain⟨k,hk,rfl,a3,hb⟩:=hrel;have a2:Hid (EP 134 5 w.heap.size w.heap.size (tG ((ns.take k).map byteOf)) wr):=a3;clear a3;have a5:=hb.size;by_cases a4:k<ns.length
  ·obtain⟨b,off,rfl,a9,_,a0⟩:=hc (by omega)
   have e0:=(hb.cell (p:=⟨b,off+k,none⟩) a9).trans (a0 k (.int .i64 ns[k]) (by simp[a4]));have HT:Hid (tG ((ns.take (k+1)).map byteOf)=tG ((ns.take k).map byteOf)++ [.int .u8 (ns[k] % 256)]):=by
    show _=_;rw[List.take_succ_eq_append_getElem a4,tB,EW];congr 1
    simp[tG,qz]
   have b1:((ns.take k).map byteOf).length≤1000:=by simp;omega
   generalize ns[k]=x at*;clear a0 hc;go_wp2_with fail
   refine(oP w.heap.size w.heap.size _ _ _ a2.out (by rw[EU];omega) a5).mono ?_;rintro e w3 ⟨rfl,a1,a8⟩;have a6:=z9 a1;clear a1;go_wp2;go_roundw
   case rel=>
    refine⟨k+1,by omega,by go_num,?_,hb.trans a8⟩;rw[HT.out];exact .inr a6.out
   case measure=>simp[intOf];omega
  ·go_wp2_with fail
   refine(EX w.heap.size w.heap.size _ _ a2.out a5).mono ?_;rintro e w1 ⟨rfl,a7⟩;go_wp2;go_ret;exact⟨Yj (by rw[nR (by rw[aN];omega)]),hb.trans a7⟩
theorem f8 (s:List UInt8)(w:eX)(hl:s.length≤1000000000):
  wH sU 109 #[.string ⟨s.toArray⟩] w fun e w' =>e= .returned (.int .i64 (((1+R.sumB s) % 251:Nat):Int))∧w' =w:=by
 have a2:=R.sumB_le s;go_enter Tryz.func109,Tryz.ntmps109;go_wp2;go_loop [3,7] (fun t i=>∃k:Nat,k≤s.length∧i= .int .i64 k∧t= .int .i64 ((1+R.sumB (s.take k):Nat):Int)) (fun _ i=>s.length-(intOf i).toNat)
 case atStart=>exact⟨0,wB _,rfl,rfl⟩
 case round=>
  obtain⟨k,hk,rfl,rfl⟩:=hrel;have a1:=R.sumB_le (s.take k);have a3:(s.take k).length≤s.length:=List.length_take_le' _ _;by_cases a0:k<s.length
  ·have ha:=dM s k a0 (by simpa[DQ]using a0)
   have HS:Hid (R.sumB (s.take (k+1))=R.sumB (s.take k)+s[k].toNat):=R.sumB_take s k a0;have h8:s[k].toNat<256:=s[k].toNat_lt;go_wp2;go_round
   case rel=>exact⟨k+1,by omega,by go_num,by rw[HS.out];go_num⟩
   case measure=>simp[intOf];omega
  ·have HT:Hid (s.take k=s):=nR (by omega)
   rw[HT.out]at*;go_wp2;go_ret;exact⟨YP (by omega),rfl⟩
theorem Of (l:List (List UInt8)):E7 l []=l.flatten:=by
 match l with
 |[]=>rfl
 |x::r=>
  rw[E8,EB];congr 1
  clear x;induction r with
  |nil=>rfl
  |cons y r ih=>simp only[E9,List.nil_append,List.map_id']at ih⊢
theorem x8:∀(l:List (List UInt8)),(∀i∈l,i.length≤1000000)→l.flatten.length≤l.length*1000000
 |[],_=>by simp
 |x::r,h=>by
  have:=x8 r (fun i hi=>h i (List.mem_cons_of_mem _ hi));have:=h x (List.mem_cons_self ..);simp only[EB,nL,nM];omega
theorem CS (l:List (List UInt8))(iv:eB)(w:eX)(M:Nat→Prop)(h:Rd w M iv l.length (l.map S))(hl:l.length≤100)(hi:∀i∈l,i.length≤1000000):
  wH sU 142 #[iv,.string ⟨#[]⟩] w fun e w' =>e= .returned (.string ⟨l.flatten.toArray⟩)∧tH w.heap.size w w' :=by
 obtain⟨a,cap,rfl,hn,hm,hc⟩:=h;rcases lG l.length with h0|h0
 ·have a3:l=[]:=wR h0
  subst a3;refine(ED a cap _ w).mono ?_;rintro e w' ⟨rfl,rfl⟩;exact⟨rfl,j0g _ _⟩
 ·obtain⟨b,off,rfl,hb,_,a0⟩:=hc h0
  have a1:(l.map fun x=>(⟨x.toArray⟩:ByteArray)).map (·.data.toList)=l:=by rw[DP];exact(aQ (fun x _=>by simp)).trans (EE l)
  have hj:=EF b off cap (l.map fun x=>(⟨x.toArray⟩:ByteArray)) ⟨#[]⟩ w (fun j x hx=>by
   rw[sZ]at hx
   cases hq:l[j]? with
   |none=>rw[hq]at hx;simp at hx
   |some y=>
    rw[hq]at hx;simp at hx;subst hx;exact a0 j _ (by rw[sZ,hq];rfl)) hb (by rw[aN];omega) (by rw[aN];exact hn) (by
    rw[a1];have:=x8 l hi;have e:E7 l []=l.flatten:=Of l;simp only;rw[e];omega)
  rw[a1,aN]at hj;refine hj.mono ?_;rintro e w' ⟨rfl,a2⟩;exact⟨by simp only;rw[Of l],a2⟩
theorem Ou (c:UInt8)(v:eB)(l:List (List UInt8))(w:eX)(M:Nat→Prop)(h:Rd w M v l.length (l.map S))(hl:l.length≤10)(hi:∀i∈l,i.length≤1000000):
  wH sU 107 #[.int .u8 (c.toNat:Int),v] w fun e w' =>e= .returned (.string ⟨(R.record c l.flatten).toArray⟩)∧tH w.heap.size w w' :=by
 have b1:=x8 l hi;have hJ:=CS l v w M h (by omega) hi;have a9:(c.toNat:Int)<256:=by have:=c.toNat_lt;omega
 have HR:Hid (R.record c l.flatten=R.recHead c l.flatten++ [nK ((1+R.sumB (R.recHead c l.flatten)) % 251)]):=rfl;have HH:Hid (R.recHead c l.flatten=[byteOf (c.toNat:Int),byteOf ((l.flatten.length:Int)/256),byteOf (l.flatten.length:Int)]++l.flatten):=by
  show _=_;have e1:byteOf (c.toNat:Int)=c:=by
   apply EY.1;have:=qz (c.toNat:Int);omega
  have e2:byteOf ((l.flatten.length:Int)/256)=nK (l.flatten.length/256):=by
   have:=y7 (l.flatten.length/256);simpa using this
  have e3:byteOf (l.flatten.length:Int)=nK (l.flatten.length % 256):=by
   apply EY.1;have h1:=qz (l.flatten.length:Int);have h2:=jp (l.flatten.length % 256);omega
  rw[e1,e2,e3];rfl
 obtain⟨va,vc,rfl⟩:∃va vc,v= .slice va l.length vc:=by obtain⟨a,cap,e,_⟩:=h;exact⟨a,cap,e⟩
 clear h hi;generalize l.flatten=body at*;have b2:(R.recHead c body).length≤100000003:=by rw[HH.out];simp;omega
 go_enter EZ,Tryz.ntmps107;go_wp2_with fail
 refine hJ.mono ?_;rintro e w1 ⟨rfl,a3⟩;have q0:(body.length:Int)≤100000000:=by omega
 have a1:=yM (.slice (some ⟨w1.heap.size,0,none⟩) 3 3) [(c.toNat:Int),(body.length:Int)/256,(body.length:Int)] (w1.alloc (.cells #[.int .i64 (c.toNat:Int),.int .i64 ((body.length:Int)/256),.int .i64 (body.length:Int)] 3)) (fun _=>False)
  (gY w1 #[.int .i64 (c.toNat:Int),.int .i64 ((body.length:Int)/256),.int .i64 (body.length:Int)] 3 (by simp)) (by simp)
 clear hJ;go_wp2_with fail
 refine a1.mono ?_;rintro e w2 ⟨rfl,a6⟩;clear a1;have q2:¬9223372036854775807< [byteOf (c.toNat:Int),byteOf ((body.length:Int)/256),byteOf (body.length:Int)].length+body.length:=by simp;omega
 have a0:Hid (tH w.heap.size w w2):=a3.trans (((j0g _ _).alloc (j0a _) _).trans (a6.mono (by simp))|>.mono a3.size);simp only[DM,H3]at*;go_wp2_with fail
 rw[jI,←HH.out];have a4:=f8 (R.recHead c body) w2 (by omega);have a2:=yM (.slice (some ⟨w2.heap.size,0,none⟩) 1 1) [(((1+R.sumB (R.recHead c body)) % 251:Nat):Int)] (w2.alloc (.cells #[.int .i64 (((1+R.sumB (R.recHead c body)) % 251:Nat):Int)] 3)) (fun _=>False)
  (gY w2 #[.int .i64 (((1+R.sumB (R.recHead c body)) % 251:Nat):Int)] 3 (by simp)) (by simp)
 generalize R.recHead c body=s at*;generalize(1+R.sumB s) % 251=ck at*;refine a4.mono ?_;rintro e w3 ⟨rfl,a8⟩;subst a8;clear a4;go_wp2_with fail
 refine a2.mono ?_;rintro e w4 ⟨rfl,a7⟩;simp only[DM,H3]at*;have a5:Hid (tH w.heap.size w w4):=a0.out.trans (((j0g _ _).alloc (j0a _) _).trans (a7.mono (by simp))|>.mono a0.out.size);have q4:¬9223372036854775807<s.length+ [byteOf (ck:Int)].length:=by simp;omega
 clear a2;go_wp2;go_ret;exact⟨Yj (by rw[HR.out,←y7,←jI]),a5.out⟩
theorem oH {P:Program}{ops:Array Oper}{o:Oper}{a:Act}{w:eX}{K:Act→eX→Prop}{Q:Exit→Act→eX→Prop}{E:Prop}(hg:o.guard=none){f:FuncId}{fn:Func}{args:Array Operand}{a0:Array TypeId}(a1:o.op=Op.call {callee:=Callee.value (Operand.func f),args:=args,argTypes:=a0})
  (hf:P.funcs[f]? =some fn)(hn:(fn.name== "runtime.NumGoroutine")=false)(hb:fn.body.isNone=false){vals:Array eB}(hv:args.map a.eval=vals){R:eB→eX→Prop}(hC:wH P f vals w fun e w' =>∃v,e= .returned v∧R v w')(hK:∀v w',R v w' →K (a.put o.dst v) w'):
  if Region.wanted o (yielded ops a.tmps)=true then Oper.wp P o a w K Q else E:=by
 rw[if_pos (by simp[Region.wanted,hg])];unfold Oper.wp;rw[Conc.run_call_body a1 hf hn hb,hv];exact hC.mono fun e w' ⟨v,he,hr⟩=>by subst he;exact hK v w' hr
theorem vm {P:Program}(w:eX)(base:Nat)(t u ty e:TypeId)(i:TypeInfo)(ht:P.underlying t=some (.slice e))(hu:P.underlying u=some .string)(hi:P.info? e=some i)(hz:i.zero=some (.int .u8 0))(a0:i.size=1)(a7:i.bytes=1)
  (v:eB)(n:Nat)(xs:List eB)(a1:w.ownsRow base e 1 v n xs)(s:ByteArray)(hs:0<s.size)(a4:n+s.size≤140737488355328){v' :eB}{w' :eX}(hr:(eP #[t,u] ty #[v,.string s]).run P w= .ok v' w'):
  ∀g,v'.ownBlock=some g→v.ownBlock=some g∨w.heap.size≤g:=by
 have b2:xs.length=n:=by simpa using a1.1
 rcases a1.2 with⟨rfl,rfl⟩|⟨g,cap,a6,rfl,b3,hg,b5,b4,a9,a8⟩
 ·have h1:=run_append_nil_string (P:=P) w t u ty e i (.int .u8 0) ht hu hi hz s (by omega) (by omega) (by rw[a7];omega)
  rw[h1]at hr;injection hr with hv _
  subst hv;intro g hg;simp[Value.ownBlock]at hg;exact .inr (by omega)
 ·by_cases a3:n+s.size≤cap
  ·have b1 :a6.size=cap:=by simpa using a9
   have h1:=Lib.run_append_room_string (P:=P) w t u ty e i ht hu hi a0 g n cap a6 hg s a3 (by omega);rw[h1]at hr;injection hr with hv _
   subst hv;intro g' a5;exact .inl (by simpa[Value.ownBlock]using a5)
  ·have a2:∀j u,xs[j]? =some u→w.cell? ((⟨g,0,none⟩:Addr).add j)=some u:=a1.cells (g:=g) rfl
   have h1:=Lib.run_append_grow_string (P:=P) w t u ty e i (.int .u8 0) ht hu hi hz ⟨g,0,none⟩ n cap xs (by rw[a0];simpa using b2) a2 s (by omega) (by omega) (by rw[a7];exact growslice_fits (by omega) (by omega));rw[h1]at hr;injection hr with hv _
   subst hv;intro g' a5;simp[Value.ownBlock]at a5;exact .inr (by omega)
theorem Tryz.info5:(Tryz.prog.info? 5).map (fun i=>(i.zero,i.size,i.bytes))=some (some (.int .u8 0),1,1):=by kernel_rfl
theorem R.record_len (c:UInt8)(b:List UInt8):(R.record c b).length=b.length+4:=by simp[R.record,R.recHead]
theorem j7 (B:Nat)(c:UInt8)(ci:Int)(b8:(c.toNat:Int)=ci)(v:eB)(l:List (List UInt8)){w:eX}{M O:Nat→Prop}{st:R.St}{bv cv:eB}{LB:List BrP}{LCm:List (R.Cm×eB×eB)}(hP:PSx w M O B st bv cv LB LCm)(Mr:Nat→Prop)(h:Rd w Mr v l.length (l.map S))(hl:l.length≤10)(hi:∀i∈l,i.length≤1000000)(d7:st.packed.length≤1000000000000):
  wH sU 69 #[.pointer (some ⟨B,0,none⟩),.int .u8 ci,v] w fun e w' =>e= .returned (.tuple #[])∧zx w w' M O B {st with packed:=st.packed++R.record c l.flatten}:=by
 subst b8;have a5:=fun W (hW:tH w.heap.size w W)=>Ou c v l W Mr (h.below hW) hl hi
 have d8:(R.record c l.flatten).length≤100000000:=by rw[R.record_len];have:=x8 l hi;omega
 obtain⟨va,vc,rfl⟩:∃va vc,v= .slice va l.length vc:=by obtain⟨a,cap,e,_⟩:=h;exact⟨a,cap,e⟩
 obtain⟨pv,a0⟩:=hP.pk;have c2:=a0.c2;have b6:=hP.fr 2;have a4:=hP.lt B hP.own;obtain⟨i0,a9,b1,b2,b3⟩:=info_parts Tryz.info5;obtain⟨pa,pc,a1,_⟩:=zh a0.row;have HP:=z9 hP;have b5:=z9 a0;have d4:=z9 a1;have a7:∀W,tH w.heap.size w W→∃a3 n3 k3 w3,(eP #[100,9] 100 #[.slice pa st.packed.length pc,.string ⟨(R.record c l.flatten).toArray⟩]).run sU W= .ok (.slice a3 n3 k3) w3∧Hid (w3.ownsRow 0 5 1 (.slice a3 n3 k3) (st.packed++R.record c l.flatten).length (tG (st.packed++R.record c l.flatten)))∧Hid (zf (fun b=>pv.ownBlock=some b) w w3)∧Hid (∀g,(Value.slice a3 n3 k3).ownBlock=some g→pv.ownBlock=some g∨w.heap.size≤g)∧w3.cell? ⟨B,2,none⟩=some (.slice pa st.packed.length pc)∧w3.frozen? ⟨B,2,none⟩=false:=by
  intro W hW;have a2:=Zl a0.row hW;obtain⟨v3,w3,h1,h2,h3,h4⟩:=Lib.run_append_own_string (P:=sU) W 0 100 9 100 5 i0 H5 H6 a9 b1 b2 b3 pv st.packed.length (tG st.packed) a2 ⟨(R.record c l.flatten).toArray⟩ (by simp[DQ,maxLen];omega) (by simp[DQ];omega) (wB _);have a6:pv.ownBlock≠some B:=fun e=>(a0.rowO B e).2.1 rfl
  have d5:W.heap.size≤w3.heap.size:=h3.size;have d6:=hW.size;have hK:zf (fun b=>pv.ownBlock=some b) w w3:=⟨h3.os.trans hW.os,h3.tape.trans hW.tape,h3.output.trans hW.output,by omega,fun k hk hn=>by
   rw[h3.block k (by omega) (fun e=>hn e.symm)];exact hW.block k hk⟩
  have b7:=vm (P:=sU) W 0 100 9 100 5 i0 H5 H6 a9 b1 b2 b3 pv st.packed.length (tG st.packed) a2 ⟨(R.record c l.flatten).toArray⟩ (by simp[DQ,R.record_len]) (by simp[DQ];omega) h1;obtain⟨a3,k3,c9,_⟩:=zh h2;subst c9;refine⟨a3,_,k3,w3,by rw[←a1];exact h1,?_,hK,?_,?_,?_⟩
  ·show World.ownsRow _ _ _ _ _ _ _
   rw[EV,←EW]at h2;simpa[DQ]using h2
  ·intro g hg
   rcases b7 g hg with h|h
   ·exact .inl h
   ·exact .inr (by omega)
  ·rw[hK.cell (p:=⟨B,2,none⟩) a4 a6,c2,a1]
  ·rw[hK.frozen (p:=⟨B,2,none⟩) a4 a6];exact b6
 rw[a1]at c2;have b4:=z9 a7;clear hP a0 a1 a7 h hi;generalize R.record c l.flatten=rc at*;generalize st.packed++rc=pk2 at*;go_enter Tryz.func69,Tryz.ntmps69;go_wp2_with fail
 go_region_law (first
  |((refine vr (by rfl) (.tmp 10) (.tmp 13) 100 9 (by rfl) (.slice pa st.packed.length pc) (.string ⟨rc.toArray⟩) (by rfl) (by rfl) (by exact c8) ?_))
  |((refine oH (R:=fun v w1=>v= .string ⟨rc.toArray⟩∧tH w.heap.size w w1) (by rfl) (by rfl) EZ (by rfl) (by rfl) (vals:= #[.int .u8 (c.toNat:Int),.slice va l.length vc]) (by simp[Act.eval,Act.put]) ((a5 _ (j0g _ _).drew).mono fun e w1 ⟨he,hb⟩=>⟨_,he,rfl,((j0g _ _).drew).trans hb⟩) ?_;rintro v0 w1 ⟨rfl,a8⟩;have d2:w1.cell? ⟨B,2,none⟩=some (.slice pa st.packed.length pc):=(a8.cell (p:=⟨B,2,none⟩) a4).trans c2;obtain⟨a3,n3,k3,w3,c8,c7,b9,c6,d3,g3⟩:=b4.out w1 a8)))
 all_goals
  go_end0
  exact⟨rfl,F_ HP.out b5.out b9.out c7.out c6.out⟩
theorem f7 (b:Nat)(name s:List UInt8)(w:eX)(h0:w.cell? ⟨b,0,none⟩=some (.string ⟨name.toArray⟩)):
  wH sU 105 #[.pointer (some ⟨b,0,none⟩),.string ⟨s.toArray⟩] w fun e w' =>e= .returned (.int .i64 (DC name s))∧w' =w:=by
 go_enter Tryz.func105,Tryz.ntmps105;go_wp2_with fail
 refine(DE _ _ _).mono ?_;rintro e w1 ⟨rfl,rfl⟩;go_wp2;go_ret;exact⟨rfl,rfl⟩
theorem gQ (bv:eB)(L:List BrP)(t:List R.Br)(s:List UInt8)(w:eX)(M:Nat→Prop)(hL:L.map (·.1)=t)(b5:w.ownsRow 0 88 1 bv L.length (Xe L))(hI:∀p∈L,ku w M p)(hl:t.length≤1000000)(a4:zW R.Br.name t):
  wH sU 104 #[bv,.string ⟨s.toArray⟩,.func (.func 105) #[] #[]] w fun e w' =>e= .returned (.tuple #[.int .i64 (yI R.Br.name t s:Int),.bool (t.any fun x=>x.name==s)])∧w' =w:=by
 obtain⟨a,cap,rfl,hn,hm,b3,a7⟩:=zh b5;have a9:t.length=L.length:=by rw[←hL,aN]
 have HT:Hid (∀(i:Nat) (h:i<L.length) (hb:i<t.length),t[i]'hb=(L[i]'h).1):=by intro i h hb;subst hL;simp
 have a5:Hid (t.length=L.length):=a9;rw[a9]at hl;have a6:=a4.mono s;unfold maxLen at hm;have HS:Hid (∀(i j:Nat) (hi:i<t.length) (hj:j<t.length),i<j→Op.bytesLess t[i].name t[j].name=true):=(Zz _ _).1 a4;have HI:=z9 hI;clear a9 hL b5 a4 hI;go_enter Tryz.func104,Tryz.ntmps104;go_wp2;go_loop [9,10] (fun i j=>∃p q:Nat,p≤q∧q≤L.length∧i= .int .i64 p∧j= .int .i64 q∧(∀k (h:k<t.length),k<p→zG s t[k].name=true)∧(∀k (h:k<t.length),q≤k→zG s t[k].name=false)) (fun i j=>(intOf j).toNat-(intOf i).toNat)
 case atStart=>exact⟨0,L.length,wB _,j0a _,rfl,rfl,fun k _ h=>by omega,fun k h h' =>by rw[a5.out]at h;omega⟩
 case round=>
  obtain⟨p,q,d4,hq,rfl,rfl,hA,hB⟩:=hrel;have HA:=z9 hA;have HB:=z9 hB;have b9:=z9 a6;clear hA hB a6;by_cases c9:p<q
  ·cases a with
   |none=>have:=(b3 rfl).1;omega
   |some ad=>
   obtain⟨g,rfl,_,_,_,a0⟩:=a7 ad rfl;obtain⟨h,hh⟩:∃h:Nat,h=(p+q)/2:=⟨_,rfl⟩
   have d3:p≤h:=by omega
   have d5:h<q:=by omega
   have a3:h<L.length:=by omega
   have c8:((p:Int)+(q:Int))/2=(h:Int):=by omega
   have e0:=qm a0 h a3;have n0:=(HI.out _ (j0c a3)).c0;have HX:Hid (t[h]'(by rw[a5.out];exact a3)=(L[h]'a3).1):=HT.out h a3 _;generalize(L[h]'a3).1.name=nm at n0;generalize b4:(L[h]'a3).2.1=bb at e0 n0;obtain⟨a1,b2,b8⟩:∃a1,Hid ((L[h]'a3).1.name=a1)∧w.cell? ⟨bb,0,none⟩=some (.string ⟨a1.toArray⟩):=⟨_,(rfl:_=_),by rw[←b4];exact(HI.out _ (j0c a3)).c0⟩
   clear a0 hh b4 n0;go_wp2_with fail
   refine(f7 bb a1 s _ b8).mono ?_;rintro e w1 ⟨rfl,b7⟩;subst b7;have c7:=XB a1 s;generalize b6:DC a1 s=c at c7;by_cases c6:c<0
   ·have HC:Hid (zG s a1 =true):=by show _=_;rw[zG,←Yp,b6];simpa using c6
    clear b6;go_wp2;go_round
    case rel=>
     refine⟨h+1,q,by omega,by omega,by go_num,rfl,fun k hk h1=>b9.out k h hk (by rw[a5.out];exact a3) (by omega) (by rw[HX.out,b2.out];exact HC.out),HB.out⟩
    case measure=>simp[intOf];omega
   ·have HC:Hid (zG s a1 =false):=by show _=_;rw[zG,←Yp,b6];simpa using c6
    clear b6;go_wp2;go_round
    case rel=>
     refine⟨p,h,by omega,by omega,rfl,rfl,HA.out,fun k hk h1=> ?_⟩;rw[nY];intro h3;have:=b9.out h k (by rw[a5.out];exact a3) hk h1 h3;rw[HX.out,b2.out,HC.out]at this;cases this
    case measure=>simp[intOf];omega
  ·obtain rfl:p=q:=by omega
   have HP:Hid (yI R.Br.name t s=p):=by
    show _=_;unfold yI;by_cases a2:p<t.length
    ·rw[DF a2]
     exact⟨by simpa using HB.out p a2 (j0a _),fun j hj=>by simpa using HA.out j (by omega) hj⟩
    ·obtain rfl:p=t.length:=by rw[a5.out]at a2⊢;omega
     refine aT.2 fun y hy=> ?_
     obtain⟨k,hk,rfl⟩:=wJ hy;simpa using HA.out k hk hk
   have HN:Hid (∀k (hk:k<t.length),k<p→(t[k].name==s)=false):=by
    intro k hk a8;have:=HA.out k hk a8;rw[nY];intro e;rw[zG,beq_iff_eq.1 e,zm]at this;cases this
   by_cases a2:p<L.length
   ·cases a with
    |none=>have:=(b3 rfl).1;omega
    |some ad=>
    obtain⟨g,rfl,_,_,_,a0⟩:=a7 ad rfl;have e0:=qm a0 p a2;have HX:Hid (t[p]'(by rw[a5.out];exact a2)=(L[p]'a2).1):=HT.out p a2 _;generalize b4:(L[p]'a2).2.1=bb at e0;obtain⟨a1,b2,b8⟩:∃a1,Hid ((L[p]'a2).1.name=a1)∧w.cell? ⟨bb,0,none⟩=some (.string ⟨a1.toArray⟩):=⟨_,(rfl:_=_),by rw[←b4];exact(HI.out _ (j0c a2)).c0⟩
    have HY:Hid ((t.any fun y=>y.name==s)=(a1 ==s)):=by
     show _=_
     cases he:(a1 ==s)
     ·rw[nY]
      intro h;obtain⟨y,hy,b1⟩:=nX.1 h;obtain⟨k,hk,rfl⟩:=wJ hy;rcases DG k p with a8|a8|a8
      ·have:=HN.out k hk a8;rw[b1]at this;cases this
      ·subst a8;rw[HX.out,b2.out,he]at b1;cases b1
      ·have h1:=HS.out p k (by rw[a5.out];exact a2) hk a8
       have h2:=HB.out p (by rw[a5.out];exact a2) (j0a _);rw[beq_iff_eq.1 b1]at h1;rw[zG,h1]at h2;cases h2
     ·exact nX.2 ⟨t[p]'(by rw[a5.out];exact a2),j0c _,by rw[HX.out,b2.out];exact he⟩
    clear a0 b4;go_wp2_with fail
    refine(f7 bb a1 s _ b8).mono ?_;rintro e w1 ⟨rfl,b7⟩;subst b7;have HQ:=z9 (vX a1 s);generalize DC a1 s=c at HQ;go_wp2;go_ret2;exact⟨vv (by rw[HP.out]) (by rw[HY.out,HQ.out]),rfl⟩
   ·have HY:Hid ((t.any fun y=>y.name==s)=false):=by
     show _=_;rw[nY];intro h;obtain⟨y,hy,b1⟩:=nX.1 h;obtain⟨k,hk,rfl⟩:=wJ hy;have:=HN.out k hk (by rw[a5.out]at hk;omega);rw[b1]at this;cases this
    go_wp2;go_ret2;exact⟨vv (by rw[HP.out]) HY.out,rfl⟩
theorem kg {w:eX}{M O:Nat→Prop}{B:Nat}{st:R.St}{bv cv:eB}{LB:List BrP}{LCm:List (R.Cm×eB×eB)}(h:PSx w M O B st bv cv LB LCm)(hi:Inv st)(s:List UInt8):
  wH sU 67 #[.pointer (some ⟨B,0,none⟩),.string ⟨s.toArray⟩] w fun e w' =>e= .returned (.tuple #[.int .i64 (yI R.Br.name st.brs s:Int),.bool (st.brs.any fun x=>x.name==s)])∧w' =w:=by
 have hs:=gQ bv LB st.brs s w M h.brs h.row h.at_ (by have:=hi.many;omega) hi.sort;have c0:=h.c0;clear h hi;go_enter Tryz.func67,Tryz.ntmps67;go_wp2_with fail
 refine hs.mono ?_;rintro e w1 ⟨rfl,a0⟩;subst a0;go_wp2;go_ret2;exact⟨rfl,rfl⟩
def Zh (LB:List BrP)(st:R.St)(s:List UInt8):Option Addr:=if R.fnd st.brs s<st.brs.length then(LB[R.fnd st.brs s]?).map (fun p=>⟨p.2.1,0,none⟩)else none
theorem qv {w:eX}{M O:Nat→Prop}{B:Nat}{st:R.St}{bv cv:eB}{LB:List BrP}{LCm:List (R.Cm×eB×eB)}(h:PSx w M O B st bv cv LB LCm)(hi:Inv st)(s:List UInt8):
  wH sU 45 #[.pointer (some ⟨B,0,none⟩),.string ⟨s.toArray⟩] w fun e w' =>e= .returned (.pointer (Zh LB st s))∧w' =w:=by
 have hs:=kg h hi s;have c0:=h.c0;have a4:st.brs.length=LB.length:=by rw[←h.brs,aN]
 obtain⟨a,cap,rfl,hn,hm,a2,a0⟩:=zh h.row;unfold maxLen at hm;rw[QH]at hs;by_cases hf:R.fnd st.brs s<st.brs.length
 ·have HA:Hid (Zh LB st s=some ⟨(LB[R.fnd st.brs s]'(by omega)).2.1,0,none⟩):=by
   show _=_;rw[Zh,if_pos hf,j0d (by omega)];rfl
  rw[decide_eq_true hf,←j8 hi.sort s hf]at hs
  cases a with
  |none=>have:=(a2 rfl).1;omega
  |some ad=>
  obtain⟨g,rfl,_,_,_,a1⟩:=a0 ad rfl;have e0:=qm a1 (R.fnd st.brs s) (by omega);generalize(LB[R.fnd st.brs s]'(by omega)).2.1=bb at e0 HA;have a5:R.fnd st.brs s<LB.length:=by omega
  clear h hi a1 a0 a2 a4 hf;generalize R.fnd st.brs s=k at*;go_enter H7,H8;go_wp2_with fail
  refine hs.mono ?_;rintro e w1 ⟨rfl,a3⟩;subst a3;go_wp2;go_ret;exact⟨by rw[HA.out];rfl,rfl⟩
 ·have HA:Hid (Zh LB st s=none):=by show _=_;rw[Zh,if_neg hf]
  rw[decide_eq_false hf]at hs;clear h hi a0 a2 a4 hf;go_enter H7,H8;go_wp2_with fail
  refine hs.mono ?_;rintro e w1 ⟨rfl,a3⟩;subst a3;go_wp2;go_ret;exact⟨by rw[HA.out];rfl,rfl⟩
