import Derived.Test.YtolgebdmffcemaaGreatDoorQ14
set_option linter.all false
set_option maxHeartbeats 20000000
set_option maxRecDepth 1000000
namespace Go.Proofs.YtolgebdmffcemaaGreatDoor
open Go.RowKit
theorem z9 {p:Prop}(h:p):Hid p:=h
theorem GM (s:List UInt8)(w:World):Calls Tryz.prog 232 #[.string ⟨s.toArray⟩] w fun e w' =>e= .returned (.bool false)∧w' =w:=by
 go_enter Tryz.func232,Tryz.ntmps232;go_wp2;go_ret;exact⟨zz (by simp),rfl⟩
theorem Fb (s:List UInt8)(w:World):Calls Tryz.prog 199 #[.string ⟨s.toArray⟩] w fun e w' =>e= .returned (.bool false)∧w' =w:=by
 go_enter Tryz.func199,Tryz.ntmps199;go_wp2;go_ret;exact⟨zz (by simp),rfl⟩
theorem cE (s t:List UInt8)(w:World):Calls Tryz.prog 198 #[.string ⟨s.toArray⟩,.string ⟨t.toArray⟩] w fun e w' =>e= .returned (.bool (Op.bytesLess s t))∧w' =w:=by
 go_enter Tryz.func198,Tryz.ntmps198;go_wp2_with fail
 refine(GM s _).mono ?_;rintro e w1 ⟨rfl,rfl⟩;go_wp2;go_ret;exact⟨rfl,rfl⟩
theorem QN {a b:Int}{c d:Bool}(h:b=a)(k:d=c):Ending.returned (.tuple #[.int .i64 a,.bool c])= .returned (.tuple #[.int .i64 b,.bool d]):=by rw[h,k]
theorem Y7 (v:Value)(l:List (List UInt8))(s:List UInt8)(w:World)(M:Nat→Prop)(h:Rd w M v l.length (l.map S))(hl:l.length≤1000000)
  (a3:∀(i j:Nat) (hi:i<l.length) (hj:j<l.length),i<j→Op.bytesLess l[i] l[j]=true)(a1:∀(i j:Nat) (hi:i<l.length) (hj:j<l.length),i≤j→zO s l[j]=true→zO s l[i]=true):
  Calls Tryz.prog 148 #[v,.string ⟨s.toArray⟩] w fun e w' =>e= .returned (.tuple #[.int .i64 (xL l s:Int),.bool (l.any fun y=>y==s)])∧w' =w:=by
 obtain⟨a,cap,rfl,hn,hm,hc⟩:=h;unfold maxLen at hm;go_enter Tryz.func148,Tryz.ntmps148;go_wp2;go_loop [7,8] (fun i j=>∃p q:Nat,p≤q∧q≤l.length∧i= .int .i64 p∧j= .int .i64 q∧(∀k (h:k<l.length),k<p→zO s l[k]=true)∧(∀k (h:k<l.length),q≤k→zO s l[k]=false)) (fun i j=>(intOf j).toNat-(intOf i).toNat)
 case atStart=>exact⟨0,l.length,Nat.zero_le _,j0a _,rfl,rfl,fun k _ h=>by omega,fun k h h' =>by omega⟩
 case round=>
  obtain⟨p,q,b3,hq,rfl,rfl,hA,hB⟩:=hrel;have HA:=z9 hA;have HB:=z9 hB;clear hA hB;by_cases b1:p<q
  ·obtain⟨b,off,rfl,_,_,a0⟩:=hc (by omega)
   obtain⟨h,hh⟩:∃h:Nat,h=(p+q)/2:=⟨_,rfl⟩
   have b2:p≤h:=by omega
   have b4:h<q:=by omega
   have a5:h<l.length:=by omega
   have a9:((p:Int)+(q:Int))/2=(h:Int):=by omega
   have hx:w.cell? ⟨b,off+h,none⟩=some (.string ⟨(l[h]'a5).toArray⟩):=a0 h _ (by rw[List.getElem?_map,j0d a5];rfl);have HM:Hid (∀k (hk:k<l.length),k≤h→zO s (l[h]'a5)=true→zO s l[k]=true):=fun k hk h1 h2=>a1 k h hk a5 h1 h2
   have a8:Hid (∀k (hk:k<l.length),h≤k→zO s (l[h]'a5)=false→zO s l[k]=false):=fun k hk h1 h2=>by
    rw[Bool.eq_false_iff]at h2⊢;intro h3;exact h2 (a1 h k a5 hk h1 h3)
   generalize hy:(l[h]'a5)=y at hx HM a8;clear a0 hc hh hy a1 a3;go_wp2_with fail
   refine(cE y s _).mono ?_;rintro e w1 ⟨rfl,rfl⟩;generalize hb:Op.bytesLess y s=c;have HC:Hid (zO s y=c):=hb;clear hb
   cases c
   ·go_wp2
    go_round
    case rel=>exact⟨p,h,by omega,by omega,rfl,rfl,HA.out,fun k hk h1=>a8.out k hk h1 HC.out⟩
    case measure=>simp[intOf];omega
   ·go_wp2
    go_round
    case rel=>exact⟨h+1,q,by omega,by omega,by go_num,rfl,fun k hk h1=>HM.out k hk (by omega) HC.out,HB.out⟩
    case measure=>simp[intOf];omega
  ·obtain rfl:p=q:=by omega
   have HP:Hid (xL l s=p):=by
    show _=_;unfold xL;by_cases a2:p<l.length
    ·rw[List.findIdx_eq a2]
     exact⟨by simpa using HB.out p a2 (j0a _),fun j hj=>by simpa using HA.out j (by omega) hj⟩
    ·obtain rfl:p=l.length:=by omega
     refine List.findIdx_eq_length.2 fun y hy=> ?_
     obtain⟨k,hk,rfl⟩:=List.getElem_of_mem hy;simpa using HA.out k hk hk
   by_cases a2:p<l.length
   ·obtain⟨b,off,rfl,_,_,a0⟩:=hc (by omega)
    have hx:w.cell? ⟨b,off+p,none⟩=some (.string ⟨(l[p]'a2).toArray⟩):=a0 p _ (by rw[List.getElem?_map,j0d a2];rfl);have HY:Hid ((l.any fun y=>y==s)=((l[p]'a2)==s)):=by
     show _=_
     cases he:((l[p]'a2)==s)
     ·rw[Bool.eq_false_iff]
      intro h;obtain⟨y,hy,a7⟩:=List.any_eq_true.1 h;obtain⟨k,hk,rfl⟩:=List.getElem_of_mem hy;have a4 :l[k]=s:=by simpa using a7
      rcases Nat.lt_trichotomy k p with a6|a6|a6
      ·have:=HA.out k hk a6
       rw[zO,a4,zv]at this;cases this
      ·subst a6;rw[a7]at he;cases he
      ·have h1:=a3 p k a2 hk a6
       have h2:=HB.out p a2 (j0a _);rw[a4]at h1;rw[zO,h1]at h2;cases h2
     ·exact R.any_hit l _ p a2 he
    generalize(l[p]'a2)=y at hx HY;clear a0 hc a3 a1
    cases he:(y==s)
    ·have HE:=z9 he
     go_wp2_with fail
     refine(Fb _ _).mono ?_;rintro e w1 ⟨rfl,rfl⟩;go_wp2;go_ret2;exact⟨QN (by rw[HP.out]) (by rw[HY.out,HE.out]),rfl⟩
    ·have HE:=z9 he
     go_wp2;go_ret2;exact⟨QN (by rw[HP.out]) (by rw[HY.out,HE.out]),rfl⟩
   ·have HY:Hid ((l.any fun y=>y==s)=false):=by
     show _=_;rw[Bool.eq_false_iff];intro h;obtain⟨y,hy,a7⟩:=List.any_eq_true.1 h;obtain⟨k,hk,rfl⟩:=List.getElem_of_mem hy;have:=HA.out k hk (by omega);have a4 :l[k]=s:=by simpa using a7
     rw[zO,a4,zv]at this;cases this
    go_wp2;go_ret2;exact⟨QN (by rw[HP.out]) HY.out,rfl⟩
theorem Cj (c:UInt8):R.nb c=((decide (97≤(c.toNat:Int))&&decide ((c.toNat:Int)≤122))||(decide (48≤(c.toNat:Int))&&decide ((c.toNat:Int)≤57))):=by
 rw[Bool.eq_iff_iff];simp[R.nb];omega
theorem Cf (c:UInt8):R.tb c=(decide (32≤(c.toNat:Int))&&(decide ((c.toNat:Int)≤126)&&((c.toNat:Int) !=59))):=by
 rw[Bool.eq_iff_iff];simp[R.tb];omega
theorem uk (c:UInt8)(ci:Int)(hc:(c.toNat:Int)=ci)(w:World):
  Calls Tryz.prog 91 #[.int .u8 ci] w fun e w' =>e= .returned (.bool (R.nb c))∧w' =w:=by
 have HB:Hid (R.nb c=((decide (97≤ci)&&decide (ci≤122))||(decide (48≤ci)&&decide (ci≤57)))):=by show _=_;rw[Cj,hc]
 clear hc;by_cases h1:97≤ci<;>by_cases h2:ci≤122<;>by_cases h3:48≤ci<;>by_cases h4:ci≤57
 all_goals
  go_enter Tryz.func91,Tryz.ntmps91;go_wp2;go_ret;exact⟨zz (by rw[HB.out];simp<;>omega),rfl⟩
theorem uj (c:UInt8)(ci:Int)(hc:(c.toNat:Int)=ci)(w:World):
  Calls Tryz.prog 160 #[.int .u8 ci] w fun e w' =>e= .returned (.bool (R.tb c))∧w' =w:=by
 have HB:Hid (R.tb c=(decide (32≤ci)&&(decide (ci≤126)&&(ci !=59)))):=by show _=_;rw[Cf,hc]
 clear hc;by_cases h1:32≤ci<;>by_cases h2:ci≤126
 all_goals
  go_enter Tryz.func160,Tryz.ntmps160;go_wp2;go_ret;exact⟨zz (by rw[HB.out];first|rfl|(simp[h1,h2];done)|(simp;omega)),rfl⟩
theorem UN (s:ByteArray)(w:World)(hs:s.size≤maxLen):
  Calls Tryz.prog 53 #[.string s] w fun e w' =>e= .returned (.bool (R.isName s.data.toList))∧w' =w:=by
 unfold maxLen at hs;by_cases h1:s.size<1
 ·go_enter Tryz.func53,Tryz.ntmps53
  go_wp2;go_ret;exact⟨zz (by rw[R.isName,R.size_list,decide_eq_false (show¬1≤s.size by omega)];simp),rfl⟩
 by_cases h8:8<s.size
 ·go_enter Tryz.func53,Tryz.ntmps53
  go_wp2;go_ret;exact⟨zz (by rw[R.isName,R.size_list,decide_eq_false (show¬s.size≤8 by omega)];simp),rfl⟩
 go_enter Tryz.func53,Tryz.ntmps53;go_wp2;go_loop [14] (fun i=>∃k:Nat,k≤s.size∧i= .int .i64 k∧(s.data.toList.take k).all R.nb=true) (fun i=>s.size-(intOf i).toNat)
 case atStart=>exact⟨0,Nat.zero_le _,rfl,rfl⟩
 case round=>
  obtain⟨k,hk,rfl,a0⟩:=hrel;have HA:Hid ((s.data.toList.take k).all R.nb=true):=a0;clear a0;by_cases a1:k<s.size
  ·go_wp2_with fail
   refine(uk s[k] _ rfl _).mono ?_;rintro e w2 ⟨rfl,rfl⟩;generalize hb:R.nb s[k]=b;have HB:Hid (R.nb s[k]=b):=hb;clear hb
   cases b
   ·go_wp2
    go_ret;exact⟨zz (R.isName_bad s k a1 HB.out),rfl⟩
   ·go_wp2
    go_round
    case rel=>exact⟨k+1,by omega,by go_num,R.take_all s R.nb k a1 HA.out HB.out⟩
    case measure=>simp[intOf];omega
  ·go_wp2
   go_ret;exact⟨zz (by rw[R.isName_end s k a1 HA.out];simp;omega),rfl⟩
theorem UM (s:ByteArray)(w:World)(hs:s.size≤maxLen):
  Calls Tryz.prog 113 #[.string s] w fun e w' =>e= .returned (.bool (R.isText s.data.toList))∧w' =w:=by
 unfold maxLen at hs;by_cases a2:20<s.size
 ·go_enter Tryz.func113,Tryz.ntmps113
  go_wp2;go_ret;exact⟨zz (R.isText_long s (by omega)),rfl⟩
 go_enter Tryz.func113,Tryz.ntmps113;go_wp2;go_loop [9] (fun i=>∃k:Nat,k≤s.size∧i= .int .i64 k∧(s.data.toList.take k).all R.tb=true) (fun i=>s.size-(intOf i).toNat)
 case atStart=>exact⟨0,Nat.zero_le _,rfl,rfl⟩
 case round=>
  obtain⟨k,hk,rfl,a0⟩:=hrel;have HA:Hid ((s.data.toList.take k).all R.tb=true):=a0;clear a0;by_cases a1:k<s.size
  ·go_wp2_with fail
   refine(uj s[k] _ rfl _).mono ?_;rintro e w2 ⟨rfl,rfl⟩;generalize hb:R.tb s[k]=b;have HB:Hid (R.tb s[k]=b):=hb;clear hb
   cases b
   ·go_wp2
    go_ret;exact⟨zz (R.isText_bad s k a1 HB.out),rfl⟩
   ·go_wp2
    go_round
    case rel=>exact⟨k+1,by omega,by go_num,R.take_all s R.tb k a1 HA.out HB.out⟩
    case measure=>simp[intOf];omega
  ·go_wp2
   go_ret;exact⟨zz (R.isText_end s k a1 (by omega) HA.out),rfl⟩
theorem UO (s:List UInt8)(w:World)(hs:s.length≤maxLen):
  Calls Tryz.prog 98 #[.string ⟨s.toArray⟩] w fun e w' =>e= .returned (.bool (!(!R.isText s||s==[])))∧w' =w:=by
 have hT:=UM ⟨s.toArray⟩ w (by simpa[ByteArray.size]using hs);simp only at hT;generalize R.isText s=b at hT⊢
 cases hE:(s==([]:List UInt8))
 ·have hN:(s !=([]:List UInt8))=true:=by rw[bne,hE];rfl
  go_enter Tryz.func98,Tryz.ntmps98;go_wp2_with fail
  refine hT.mono ?_;rintro e w2 ⟨rfl,rfl⟩;go_wp2;go_ret;exact⟨zz (by simp),rfl⟩
 ·have hN:(s !=([]:List UInt8))=false:=by rw[bne,hE];rfl
  go_enter Tryz.func98,Tryz.ntmps98;go_wp2;go_ret;exact⟨zz (by simp),rfl⟩
theorem Tryz.info139:(Tryz.prog.info? 139).map (fun i=>(i.zero,i.size,i.bytes))=some (some (.agg #[.string ⟨#[]⟩,.int .i64 0,.int .i64 0,.string ⟨#[]⟩,.slice none 0 0]),5,72):=by kernel_rfl
theorem vu {w:World}{M:Nat→Prop}(L:List (R.Leaf×Value))(h:∀p∈L,It w M p):∀u∈zE L,u.oneCell' =true:=by
 intro u hu;unfold zE PC at hu;obtain⟨p,hp,hu⟩:=List.mem_flatMap.1 hu;obtain⟨a,cap,e,_⟩:=h p hp;simp only[List.mem_cons,List.not_mem_nil,or_false]at hu;rcases hu with rfl|rfl|rfl|rfl|rfl
 ·rfl
 ·rfl
 ·rfl
 ·rfl
 ·rw[e];rfl
theorem zFS (t e:TypeId)(a:Option Addr)(n c:Nat)(h:Tryz.prog.underlying t=some (.slice e))(w:World):(binOp .eql t (.slice a n c) (.slice none 0 0)).run Tryz.prog w= .ok (.bool a.isNone) w:=by
 simp only[binOp];simp[Op.equal,Op.maxDepth,Lib.run_equalIn_slice_nil w 9999 t e a n c 0 0 h]
theorem kt (v:Value)(t:List R.Leaf)(w:World)(M:Nat→Prop)(h:PT w M v t)(hl:t.length≤1000000):
  Calls Tryz.prog 146 #[v] w fun e w' =>∃L v',L.map (·.1)=t∧e= .returned v' ∧w'.ownsRow w.heap.size 139 5 v' L.length (zE L)∧(∀p∈L,It w M p)∧Below w.heap.size w w' :=by
 obtain⟨L,hL,⟨a,cap,rfl,hn,hm,hc⟩,hI⟩:=h;have HL:=hL;have a9:L.length≤1000000:=by rw[←hL,List.length_map]at hl;exact hl
 have a5:=vu L hI;have a0:=zFS 93 _ a L.length cap Tryz.underlying93
 cases a with
 |none=>
  simp only[Option.isNone_none]at a0;have h0:L.length=0:=by
   rcases Nat.eq_zero_or_pos L.length with h|h
   ·exact h
   ·obtain⟨_,_,e,_⟩:=hc h;cases e
  have a3:L=[]:=List.eq_nil_of_length_eq_zero h0;subst a3;simp only[List.length_nil]at a0;go_enter Tryz.func146,Tryz.ntmps146;go_wp2;go_ret;exact⟨[],_,hL,rfl,World.ownsRow_nil _ _ _ _,hI,j0g _ _⟩
 |some ad=>
  simp only[Option.isNone_some]at a0;have a7:∀a2,some ad=some a2 →∀j u,(zE L)[j]? =some u→(w.alloc (.cells #[] 139)).cell? (a2.add j)=some u:=by
   intro a2 e j u hu;simp only[Option.some.injEq]at e;subst e;have a6:0<L.length:=by
    rcases Nat.eq_zero_or_pos L.length with h|h
    ·have a3:L=[]:=List.eq_nil_of_length_eq_zero h
     subst a3;simp[zE]at hu
    ·exact h
   obtain⟨b,off,e,hb,_,a1⟩:=hc a6;simp only[Option.some.injEq]at e;subst e;have a4:(⟨b,off,none⟩:Addr).add j=⟨b,off+j,none⟩:=by unfold Addr.add;split<;>simp_all
   rw[a4,World.cell?_alloc_past _ _ _ hb];exact a1 j u hu
  unfold maxLen at hm;clear hc;go_enter Tryz.func146,Tryz.ntmps146;go_wp2_with (at_builtin;go_loud (refine Kk _ rfl _ _ 93 rfl w.heap.size 139 (.agg #[.string ⟨#[]⟩,.int .i64 0,.int .i64 0,.string ⟨#[]⟩,.slice none 0 0]) 5 72 Tryz.underlying93 Tryz.info139 rfl (by decide) (World.ownsRow_made (base:=w.heap.size) (e:=139) (size:=5) w #[] 0 (j0a _) (by unfold maxLen;omega) rfl) (some ad) L.length cap (zE L) (QF L) (fun e=>by cases e) a7 (by rfl) (by rfl) a5 (by unfold maxLen;omega) (by omega) (by simp) ?_))
  intro v' w1 ho a8;go_wp2;go_ret;refine⟨L,_,hL,rfl,by simpa using ho,hI,?_⟩;exact((j0g _ _).alloc (j0a _) _).grown a8 (by simp) (fun j hj=>by simp[Value.ownBlock]at hj;omega)
theorem Tryz.info88:(Tryz.prog.info? 88).map (fun i=>(i.zero,i.size,i.bytes))=some (some (.pointer none),1,8):=by kernel_rfl
def qy (FI FO TS TV TE SZ BY:Nat)(Z:Value):Prop:=
  (FI=149∧FO=200∧TS=45∧TV=45∧TE=9∧SZ=1∧BY=16∧Z= .string ⟨#[]⟩)∨
  (FI=147∧FO=196∧TS=93∧TV=92∧TE=139∧SZ=5∧BY=72∧Z= .agg #[.string ⟨#[]⟩,.int .i64 0,.int .i64 0,.string ⟨#[]⟩,.slice none 0 0])∨
  (FI=85∧FO=134∧TS=98∧TV=98∧TE=88∧SZ=1∧BY=8∧Z= .pointer none)
section
variable {FI FO TS TV TE SZ BY:Nat}{Z:Value}
theorem qy.uS (h:qy FI FO TS TV TE SZ BY Z):Tryz.prog.underlying TS=some (.slice TE):=by
 rcases h with⟨rfl,rfl,rfl,rfl,rfl,rfl,rfl,rfl⟩|⟨rfl,rfl,rfl,rfl,rfl,rfl,rfl,rfl⟩|⟨rfl,rfl,rfl,rfl,rfl,rfl,rfl,rfl⟩
 ·exact Tryz.underlying45
 ·exact Tryz.underlying93
 ·exact Tryz.underlying98
theorem qy.uV (h:qy FI FO TS TV TE SZ BY Z):Tryz.prog.underlying TV=some (.slice TE):=by
 rcases h with⟨rfl,rfl,rfl,rfl,rfl,rfl,rfl,rfl⟩|⟨rfl,rfl,rfl,rfl,rfl,rfl,rfl,rfl⟩|⟨rfl,rfl,rfl,rfl,rfl,rfl,rfl,rfl⟩
 ·exact Tryz.underlying45
 ·exact Tryz.underlying92
 ·exact Tryz.underlying98
theorem qy.inf (h:qy FI FO TS TV TE SZ BY Z):(Tryz.prog.info? TE).map (fun i=>(i.zero,i.size,i.bytes))=some (some Z,SZ,BY):=by
 rcases h with⟨rfl,rfl,rfl,rfl,rfl,rfl,rfl,rfl⟩|⟨rfl,rfl,rfl,rfl,rfl,rfl,rfl,rfl⟩|⟨rfl,rfl,rfl,rfl,rfl,rfl,rfl,rfl⟩
 ·exact Tryz.info9
 ·exact Tryz.info139
 ·exact Tryz.info88
theorem qy.num (h:qy FI FO TS TV TE SZ BY Z):0<SZ∧SZ≤5∧BY≤72:=by
 rcases h with⟨rfl,rfl,rfl,rfl,rfl,rfl,rfl,rfl⟩|⟨rfl,rfl,rfl,rfl,rfl,rfl,rfl,rfl⟩|⟨rfl,rfl,rfl,rfl,rfl,rfl,rfl,rfl⟩<;>omega
theorem qy.zc (h:qy FI FO TS TV TE SZ BY Z):Z.cells.size=SZ:=by
 rcases h with⟨rfl,rfl,rfl,rfl,rfl,rfl,rfl,rfl⟩|⟨rfl,rfl,rfl,rfl,rfl,rfl,rfl,rfl⟩|⟨rfl,rfl,rfl,rfl,rfl,rfl,rfl,rfl⟩<;>rfl
theorem gA (hf:qy FI FO TS TV TE SZ BY Z)(v:Value)(n vb base:Nat)(xs:List Value)(C:Array Value)(w:World)(a1:w.ownsRow base TE SZ v n xs)(hB:base≤w.heap.size)(hl:n≤1000000)
  (a2:w.heap[vb]? =some (.cells C TE (0,0)))(hC:C.size=SZ)(a7:∀u∈C.toList,u.oneCell' =true):
  Calls Tryz.prog FI #[v,.int .i64 (n:Int),.slice (some ⟨vb,0,none⟩) 1 1] w fun e w' =>∃v',e= .returned v' ∧w'.ownsRow base TE SZ v' (n+1) (xs++C.toList)∧w.grownBy w' v.ownBlock∧(∀g,v'.ownBlock=some g→v.ownBlock=some g∨w.heap.size≤g):=by
 have HU:Hid (Tryz.prog.underlying TS=some (.slice TE)):=hf.uS;have a5:Hid (Tryz.prog.underlying TV=some (.slice TE)):=hf.uV;have HI:Hid ((Tryz.prog.info? TE).map (fun i=>(i.zero,i.size,i.bytes))=some (some Z,SZ,BY)):=hf.inf;have a6:Hid (Z.cells.size=SZ):=hf.zc;have a3:Hid (0<SZ∧SZ≤5∧BY≤72):=hf.num;have a9:C.toList.length=1*SZ:=by simpa using hC
 have a8:∀j u,C.toList[j]? =some u→w.cell? ((⟨vb,0,none⟩:Addr).add j)=some u:=fun j u hu=>by
  rw[yO,Nat.zero_add];simp only[World.cell?,a2];simpa using hu
 obtain⟨a,cap,hv,h1,h2,h3,_⟩:=zl a1;subst hv;unfold maxLen at h2;clear a2
 cases a with
 |none=>
  obtain⟨b2,b1⟩:=h3 rfl;subst b2 b1;rcases hf with⟨rfl,rfl,rfl,rfl,rfl,rfl,rfl,rfl⟩|⟨rfl,rfl,rfl,rfl,rfl,rfl,rfl,rfl⟩|⟨rfl,rfl,rfl,rfl,rfl,rfl,rfl,rfl⟩
  all_goals
   first|go_enter Tryz.func149,Tryz.ntmps149|go_enter Tryz.func147,Tryz.ntmps147|go_enter Tryz.func85,Tryz.ntmps85
   go_wp2_with (at_builtin;go_loud (refine uG _ (by rfl) _ _ _ _ _ (by rfl) base _ _ _ _ HU.out a5.out HI.out a6.out a3.out.1 a1 ⟨vb,0,none⟩ 1 1 C.toList a9 a8 (by rfl) (by rfl) a7 (by unfold maxLen;omega) (by have:=a3.out;omega) hB ?_))
   intro v' w1 ho a4 a0;go_wp2;go_ret;exact⟨_,rfl,ho,a4,a0⟩
 |some ad=>
  rcases hf with⟨rfl,rfl,rfl,rfl,rfl,rfl,rfl,rfl⟩|⟨rfl,rfl,rfl,rfl,rfl,rfl,rfl,rfl⟩|⟨rfl,rfl,rfl,rfl,rfl,rfl,rfl,rfl⟩
  all_goals
   first|go_enter Tryz.func149,Tryz.ntmps149|go_enter Tryz.func147,Tryz.ntmps147|go_enter Tryz.func85,Tryz.ntmps85
   go_wp2_with (at_builtin;go_loud (refine uG _ (by rfl) _ _ _ _ _ (by rfl) base _ _ _ _ HU.out a5.out HI.out a6.out a3.out.1 a1 ⟨vb,0,none⟩ 1 1 C.toList a9 a8 (by rfl) (by rfl) a7 (by unfold maxLen;omega) (by have:=a3.out;omega) hB ?_))
   all_goals
    intro v' w1 ho a4 a0;go_wp2;go_ret;exact⟨_,rfl,ho,a4,a0⟩
theorem oW (hf:qy FI FO TS TV TE SZ BY Z)(g n cap i vb base:Nat)(xs:List Value)(C a0:Array Value)(w:World)(hi:i<n)(hg:w.heap[g]? =some (.cells a0 TE (0,0)))(c9:base≤g)(a7:n+1≤cap)(e2:cap≤9223372036854775807)(a4:a0.size=cap*SZ)(b1:a0.toList.take (n*SZ)=xs)
  (a1:w.heap[vb]? =some (.cells C TE (0,0)))(hC:C.size=SZ)(b9:vb≠g)(b7:∀u∈xs,u.oneCell' =true)(b6:∀u∈C.toList,u.oneCell' =true):
  Calls Tryz.prog FI #[.slice (some ⟨g,0,none⟩) n cap,.int .i64 (i:Int),.slice (some ⟨vb,0,none⟩) 1 1] w fun e w' =>∃v',e= .returned v' ∧w'.ownsRow base TE SZ v' (n+1) (xs.take (i*SZ)++(C.toList++xs.drop (i*SZ)))∧w.grownBy w' (some g)∧(∀g',v'.ownBlock=some g' →some g=some g' ∨w.heap.size≤g'):=by
 have HU:Hid (Tryz.prog.underlying TS=some (.slice TE)):=hf.uS;have d5:Hid (Tryz.prog.underlying TV=some (.slice TE)):=hf.uV;have HI:Hid ((Tryz.prog.info? TE).map (fun i=>(i.zero,i.size,i.bytes))=some (some Z,SZ,BY)):=hf.inf;have d6:Hid (Z.cells.size=SZ):=hf.zc;have c8:Hid (0<SZ∧SZ≤5∧BY≤72):=hf.num;have m0:(i+1)*SZ=i*SZ+SZ:=Nat.succ_mul i SZ;have m1:(n+1)*SZ=n*SZ+SZ:=Nat.succ_mul n SZ;have m2:(i+1)*SZ≤n*SZ:=Nat.mul_le_mul_right SZ hi;have m4:(n-i)*SZ=n*SZ-i*SZ:=Nat.sub_mul n i SZ;have m5:(n+1-i)*SZ=(n+1)*SZ-i*SZ:=Nat.sub_mul (n+1) i SZ;have m3:(n+1)*SZ≤cap*SZ:=Nat.mul_le_mul_right SZ a7;have a9:C.toList.length=SZ:=by simpa using hC
 have a8:xs.length=n*SZ:=by rw[←b1,List.length_take,Array.length_toList];omega
 obtain⟨r1,r2,r3⟩:=Fh a0.toList xs C.toList n i SZ (by omega) a8 a9 (by rw[Array.length_toList,a4];omega) b1;have e3:g<w.heap.size:=(Array.getElem?_eq_some_iff.1 hg).1;have c7:(Tryz.prog.info? TE).map (·.size)=some SZ:=by
  obtain⟨i0,b4,h0,h1,h2⟩:=info_parts hf.inf;rw[b4];simp[h1]
 have d4:∀w,(Go.sizeOf TE).run Tryz.prog w= .ok SZ w:=fun w=>by
  obtain⟨i0,b4,h0,h1,h2⟩:=info_parts hf.inf;simp[Go.sizeOf,typeInfo,b4,h1]
 have c6:∀lb cb,(callFunc FO #[.slice (some ⟨vb,0,none⟩) 1 1,.slice (some ⟨g,(i+1)*SZ,none⟩) lb cb]).run Tryz.prog w= .ok (.value (.bool false)) w:=fun lb cb=>by
  have d3:=Lib.run_overlaps_apart w TV 4 TE hf.uV SZ d4 ⟨vb,0,none⟩ ⟨g,(i+1)*SZ,none⟩ 1 1 lb cb b9 TE TE C.size a0.size (by simp[World.shape?,a1]) (by simp[World.shape?,hg]) (by rw[a4];have:=c8.out;omega) (by simp[World.frozen?,a1]) (by simp[World.frozen?,a1]);rcases hf with⟨rfl,rfl,rfl,rfl,rfl,rfl,rfl,rfl⟩|⟨rfl,rfl,rfl,rfl,rfl,rfl,rfl,rfl⟩|⟨rfl,rfl,rfl,rfl,rfl,rfl,rfl,rfl⟩
  all_goals
   first|rw[run_callFunc_extern Tryz.func200 (by kernel_rfl) (by kernel_rfl) (by kernel_rfl) (e:=Extern.SlicesOverlaps.overlaps #[45,45] #[4]) (by kernel_rfl)]|rw[run_callFunc_extern Tryz.func196 (by kernel_rfl) (by kernel_rfl) (by kernel_rfl) (e:=Extern.SlicesOverlaps.overlaps #[92,92] #[4]) (by kernel_rfl)]|rw[run_callFunc_extern Tryz.func134 (by kernel_rfl) (by kernel_rfl) (by kernel_rfl) (e:=Extern.SlicesOverlaps.overlaps #[98,98] #[4]) (by kernel_rfl)]
   rw[d3];rfl
 have a2:∀ty dc sc,(Builtin.copy_ #[TS,TS] ty #[.slice (some ⟨g,(i+1)*SZ,none⟩) (n-i) dc,.slice (some ⟨g,i*SZ,none⟩) (n+1-i) sc]).run Tryz.prog w.drew= .ok (goInt (Nat.min (n+1-i) (n-i))) (w.drew.setRow g (a0.toList.take ((i+1)*SZ)++xs.drop (i*SZ)++a0.toList.drop ((i+1)*SZ+(xs.drop (i*SZ)).length)).toArray):=fun ty dc sc=>
  Qe w.drew _ _ ty TE g ((i+1)*SZ) (n-i) dc SZ ⟨g,i*SZ,none⟩ (n+1-i) sc a0 TE (xs.drop (i*SZ)) hf.uS c7 hg (by rw[List.length_drop,a8];simp only[Nat.min_def];split<;>omega)
   (fun j u hj=>by
    rw[yO];rw[List.getElem?_drop,←b1,List.getElem?_take]at hj;split at hj
    ·show w.cell? _=_
     simp only[World.cell?,hg];simpa using hj
    ·cases hj)
   (by rw[List.length_drop,a8,a4];omega) (fun u hu=>b7 u (List.mem_of_mem_drop hu))
 obtain⟨c1,b2⟩:∃c1:Array Value,c1=(a0.toList.take ((i+1)*SZ)++xs.drop (i*SZ)++a0.toList.drop ((i+1)*SZ+(xs.drop (i*SZ)).length)).toArray:=⟨_,rfl⟩
 rw[←b2]at a2;have a5:c1.toList=a0.toList.take ((i+1)*SZ)++xs.drop (i*SZ)++a0.toList.drop ((i+1)*SZ+(xs.drop (i*SZ)).length):=by rw[b2]
 rw[←a5]at r1 r2 r3;have a3:∀ty dc,(Builtin.copy_ #[TS,TV] ty #[.slice (some ⟨g,i*SZ,none⟩) (n+1-i) dc,.slice (some ⟨vb,0,none⟩) 1 1]).run Tryz.prog (w.drew.setRow g c1)= .ok (goInt (Nat.min 1 (n+1-i))) ((w.drew.setRow g c1).setRow g (c1.toList.take (i*SZ)++C.toList++c1.toList.drop (i*SZ+C.toList.length)).toArray):=fun ty dc=>
  Qe (w.drew.setRow g c1) _ _ ty TE g (i*SZ) (n+1-i) dc SZ ⟨vb,0,none⟩ 1 1 c1 TE C.toList hf.uS c7 (setRow_heap w.drew g a0 c1 TE _ hg) (by rw[a9];simp only[Nat.min_def];split<;>omega)
   (fun j u hj=>by
    rw[yO,Nat.zero_add,cell_setRow_other _ _ _ _ b9];show w.cell? _=_;simp only[World.cell?,a1];simpa using hj)
   (by rw[a9,←Array.length_toList,r1,Array.length_toList,a4];omega) b6
 obtain⟨c2,b3⟩:∃c2:Array Value,c2=(c1.toList.take (i*SZ)++C.toList++c1.toList.drop (i*SZ+C.toList.length)).toArray:=⟨_,rfl⟩
 have a6:c2.toList=c1.toList.take (i*SZ)++C.toList++c1.toList.drop (i*SZ+C.toList.length):=by rw[b3]
 rw[←a6]at r2 r3;rw[←b3]at a3;have e6:i≤n:=by omega
 have e9:¬((i:Int)=(n:Int)):=by omega
 have d8:¬(cap=i+1):=by omega
 have e1:¬(cap=i):=by omega
 have d9:(i:Int)≤(n:Int)+1:=by omega
 have e7:((i:Int)+1).toNat=i+1:=by omega
 have e8:IntKind.i64.wrap ((i:Int)+1)=(i:Int)+1:=by rw[IntKind.wrap_i64];omega
 have d7:(0:Int)≤(i:Int)+1:=by omega
 have b5:Hid (((w.drew.setRow g c1).setRow g c2).ownsRow base TE SZ (.slice (some ⟨g,0,none⟩) (n+1) cap) (n+1) (xs.take (i*SZ)++(C.toList++xs.drop (i*SZ)))∧w.grownBy ((w.drew.setRow g c1).setRow g c2) (some g)):=by
  refine⟨⟨?_,.inr ⟨g,cap,c2,rfl,c9,?_,a7,by unfold maxLen;omega,by rw[←Array.length_toList,r2,Array.length_toList,a4],r3⟩⟩,⟨rfl,rfl,rfl,by simp,fun k hk b8=> ?_⟩⟩
  ·simp only[List.length_append,List.length_take,List.length_drop,a8,a9];omega
  ·exact setRow_heap _ g c1 c2 TE _ (setRow_heap w.drew g a0 c1 TE _ hg)
  ·rw[setRow_other _ _ _ _ (by rintro rfl;exact b8 rfl),setRow_other _ _ _ _ (by rintro rfl;exact b8 rfl)];rfl
 clear m0 m1 m2 m3 m4 m5;clear hg a1 r1 r2 r3 b2 a5 b3 a6 b7 b6 a4 b1 a8;rcases hf with⟨rfl,rfl,rfl,rfl,rfl,rfl,rfl,rfl⟩|⟨rfl,rfl,rfl,rfl,rfl,rfl,rfl,rfl⟩|⟨rfl,rfl,rfl,rfl,rfl,rfl,rfl,rfl⟩
 all_goals
  try simp only[Nat.mul_one]at c6 a2 a3
  first|go_enter Tryz.func149,Tryz.ntmps149|go_enter Tryz.func147,Tryz.ntmps147|go_enter Tryz.func85,Tryz.ntmps85
  go_wp2_with (simp only[c6])
  go_region_law (refine stp_copy (by rfl) _ _ _ _ (by rfl) _ _ (by simp[Act.eval,Act.put]) (by simp[Act.eval,Act.put]) (a2 _ _ _) ?_)
  go_wp2_with (at_builtin;refine wpl_copy _ (by rfl) _ _ _ _ (by rfl) _ _ (by rfl) (by rfl) (a3 _ _) ?_)
  go_ret;exact⟨_,rfl,b5.out.1,b5.out.2,fun g' e=> .inl e⟩
theorem Ce (hf:qy FI FO TS TV TE SZ BY Z)(k:Nat):(Builtin.zeroCells Z.cells k).size=k*SZ:=by
 rcases hf with⟨rfl,rfl,rfl,rfl,rfl,rfl,rfl,rfl⟩|⟨rfl,rfl,rfl,rfl,rfl,rfl,rfl,rfl⟩|⟨rfl,rfl,rfl,rfl,rfl,rfl,rfl,rfl⟩<;>simp[Builtin.zeroCells,Value.cells]
theorem oX (hf:qy FI FO TS TV TE SZ BY Z)(g n cap i vb base:Nat)(xs:List Value)(C b7:Array Value)(w:World)(hi:i<n)(hg:w.heap[g]? =some (.cells b7 TE (0,0)))(hB:base≤w.heap.size)(f5:n≤cap)(c6:cap<n+1)(hl:n≤1000000)(f3:b7.size=cap*SZ)(c9:b7.toList.take (n*SZ)=xs)
  (a5:w.heap[vb]? =some (.cells C TE (0,0)))(hC:C.size=SZ)(d6:∀u∈xs,u.oneCell' =true)(d5:∀u∈C.toList,u.oneCell' =true):
  Calls Tryz.prog FI #[.slice (some ⟨g,0,none⟩) n cap,.int .i64 (i:Int),.slice (some ⟨vb,0,none⟩) 1 1] w fun e w' =>∃v',e= .returned v' ∧w'.ownsRow base TE SZ v' (n+1) (xs.take (i*SZ)++(C.toList++xs.drop (i*SZ)))∧w.grownBy w' (some g)∧(∀g',v'.ownBlock=some g' →some g=some g' ∨w.heap.size≤g'):=by
 have HU:Hid (Tryz.prog.underlying TS=some (.slice TE)):=hf.uS;have f8:Hid (Tryz.prog.underlying TV=some (.slice TE)):=hf.uV;have HI:Hid ((Tryz.prog.info? TE).map (fun i=>(i.zero,i.size,i.bytes))=some (some Z,SZ,BY)):=hf.inf;have f9:Hid (Z.cells.size=SZ):=hf.zc;have b6:Hid (0<SZ∧SZ≤5∧BY≤72):=hf.num;have m0:(i+1)*SZ=i*SZ+SZ:=Nat.succ_mul i SZ;have m1:(n+1)*SZ=n*SZ+SZ:=Nat.succ_mul n SZ;have m2:(i+1)*SZ≤n*SZ:=Nat.mul_le_mul_right SZ hi;have m4:(n-i)*SZ=n*SZ-i*SZ:=Nat.sub_mul n i SZ;have m5:(n+1-i)*SZ=(n+1)*SZ-i*SZ:=Nat.sub_mul (n+1) i SZ;have m3:n*SZ≤cap*SZ:=Nat.mul_le_mul_right SZ f5;have b4:C.toList.length=SZ:=by simpa using hC
 have a4:xs.length=n*SZ:=by rw[←c9,List.length_take,Array.length_toList];omega
 have f4:g<w.heap.size:=(Array.getElem?_eq_some_iff.1 hg).1;have f7:vb<w.heap.size:=(Array.getElem?_eq_some_iff.1 a5).1;obtain⟨i0,d9,e8,b5,d3⟩:=info_parts hf.inf;have e7:(Tryz.prog.info? TE).map (·.size)=some SZ:=by rw[d9];simp[b5]
 have e6:(n:Int)+1-(i:Int)=((n+1-i:Nat):Int):=by omega
 have c7:i+(n+1-i)=n+1:=by omega
 have c8:∀j u,xs[j]? =some u→w.cell? ⟨g,j,none⟩=some u:=fun j u hj=>by
  rw[←c9,List.getElem?_take]at hj;split at hj
  ·simp only[World.cell?,hg];simpa using hj
  ·cases hj
 have b2:(Builtin.firstCells i0.size i (.slice (some ⟨g,0,none⟩) i cap)).run Tryz.prog w.drew= .ok (xs.take (i*SZ)).toArray w.drew:=by
  rw[b5];exact run_firstCells_some w.drew SZ i ⟨g,0,none⟩ i cap (xs.take (i*SZ)) (by rw[List.length_take];omega) (fun j u hj=>by
   rw[yO,Nat.zero_add];rw[List.getElem?_take]at hj;split at hj
   ·exact c8 j u hj
   ·cases hj)
 obtain⟨G,hG⟩:∃G,G=grownCap w (n+1) cap TE:=⟨_,rfl⟩
 have d7:n+1≤G:=by rw[hG];exact grownCap_ge w _ _ _
 have m6:(n+1)*SZ≤G*SZ:=Nat.mul_le_mul_right SZ d7;have m7:(G-(n+1))*SZ=G*SZ-(n+1)*SZ:=Nat.sub_mul G (n+1) SZ;have e9:G≤9223372036854775807:=by
  have:=grownCap_le_maxLen w (n+1) cap TE (by unfold maxLen;omega);rw[←hG]at this;unfold maxLen at this;omega
 obtain⟨a0,a1⟩:∃a0:Array Value,a0=(xs.take (i*SZ)).toArray++Builtin.zeroCells Z.cells (n+1-i)++Builtin.zeroCells Z.cells (G-(n+1)):=⟨_,rfl⟩
 have f6:∀ty,(Builtin.append_ #[TS,3] ty #[.slice (some ⟨g,0,none⟩) i cap,.int .i64 ((n:Int)+1-(i:Int))]).run Tryz.prog w= .ok (.slice (some ⟨w.heap.size,0,none⟩) (n+1) G) (w.drew.alloc (.cells a0 TE)):=fun ty=>by
  have h:=Lib.run_append_grow_zeros w TS 3 ty TE i0 Z .i64 .i64 hf.uS Tryz.underlying3 d9 e8 (some ⟨g,0,none⟩) i cap (xs.take (i*SZ)) b2 (n+1-i) (by omega) (by rw[b5];exact b6.out.1) (by omega) (by omega) (by rw[d3];exact j0f (Nat.mul_le_mul_left _ b6.out.2.2) (by omega)) (by rw[d3,c7];exact growslice_fits c6 (j0f (Nat.mul_le_mul_left _ b6.out.2.2) (by omega)));rw[c7,←hG,←a1]at h;rw[e6];exact h
 have a6:a0.size=G*SZ:=by
  rw[a1];simp only[Array.size_append,Ce hf,List.size_toArray,List.length_take,a4];omega
 have d8:a0.toList.take (i*SZ)=xs.take (i*SZ):=by
  rw[a1];simp only[Array.toList_append,List.append_assoc];rw[List.take_append_of_le_length (by simp only[List.length_take,a4];omega),List.take_of_length_le (by simp only[List.length_take,a4];omega)]
 obtain⟨r1,r2,r3⟩:=Fg a0.toList xs C.toList n i SZ (by omega) a4 b4 (by rw[Array.length_toList,a6];omega) d8;obtain⟨c1,b8⟩:∃c1:Array Value,c1=(a0.toList.take (i*SZ)++C.toList++a0.toList.drop (i*SZ+C.toList.length)).toArray:=⟨_,rfl⟩
 have a7:c1.toList=a0.toList.take (i*SZ)++C.toList++a0.toList.drop (i*SZ+C.toList.length):=by rw[b8]
 rw[←a7]at r1 r2 r3;obtain⟨c2,b9⟩:∃c2:Array Value,c2=(c1.toList.take ((i+1)*SZ)++xs.drop (i*SZ)++c1.toList.drop ((i+1)*SZ+(xs.drop (i*SZ)).length)).toArray:=⟨_,rfl⟩
 have a8:c2.toList=c1.toList.take ((i+1)*SZ)++xs.drop (i*SZ)++c1.toList.drop ((i+1)*SZ+(xs.drop (i*SZ)).length):=by rw[b9]
 rw[←a8]at r2 r3;have b3:(w.alloc (.cells a0 TE)).heap[w.heap.size]? =some (.cells a0 TE (0,0)):=heap_alloc_new w _;have a9:∀W:World,W.heap=(w.alloc (.cells a0 TE)).heap→∀ty dc,(Builtin.copy_ #[TS,TV] ty #[.slice (some ⟨w.heap.size,i*SZ,none⟩) (n+1-i) dc,.slice (some ⟨vb,0,none⟩) 1 1]).run Tryz.prog W= .ok (goInt (Nat.min 1 (n+1-i))) (W.setRow w.heap.size c1):=fun W hW ty dc=>by
  have h:=Qe (P:=Tryz.prog) W TS TV ty TE w.heap.size (i*SZ) (n+1-i) dc SZ ⟨vb,0,none⟩ 1 1 a0 TE C.toList hf.uS e7 (by rw[hW];exact b3) (by rw[b4];simp only[Nat.min_def];split<;>omega)
   (fun j u hj=>by
    rw[yO,Nat.zero_add];simp only[World.cell?,hW];rw[heap_alloc_old w _ f7,a5];simpa using hj)
   (by rw[b4,a6];omega) d5
  rw[←b8]at h;exact h
 have b1:∀W:World,W.heap=((w.alloc (.cells a0 TE)).setRow w.heap.size c1).heap→∀ty dc sc,(Builtin.copy_ #[TS,TS] ty #[.slice (some ⟨w.heap.size,(i+1)*SZ,none⟩) (n-i) dc,.slice (some ⟨g,i*SZ,none⟩) (n-i) sc]).run Tryz.prog W= .ok (goInt (Nat.min (n-i) (n-i))) (W.setRow w.heap.size c2):=fun W hW ty dc sc=>by
  have h:=Qe (P:=Tryz.prog) W TS TS ty TE w.heap.size ((i+1)*SZ) (n-i) dc SZ ⟨g,i*SZ,none⟩ (n-i) sc c1 TE (xs.drop (i*SZ)) hf.uS e7 (by rw[hW];exact setRow_heap _ _ a0 c1 TE _ b3) (by rw[List.length_drop,a4];simp only[Nat.min_def];split<;>omega)
   (fun j u hj=>by
    rw[yO];simp only[World.cell?,hW];rw[setRow_other _ _ _ _ (by omega),heap_alloc_old w _ f4];rw[List.getElem?_drop]at hj;have:=c8 _ _ hj;simp only[World.cell?]at this;exact this)
   (by rw[List.length_drop,a4,←Array.length_toList,r1,Array.length_toList,a6];omega) (fun u hu=>d6 u (List.mem_of_mem_drop hu))
  rw[←b9]at h;exact h
 have d4:∀W:World,W.heap=(((w.alloc (.cells a0 TE)).setRow w.heap.size c1).setRow w.heap.size c2).heap→W.os=w.os→W.tape=w.tape→W.output=w.output→(W.ownsRow base TE SZ (.slice (some ⟨w.heap.size,0,none⟩) (n+1) G) (n+1) (xs.take (i*SZ)++(C.toList++xs.drop (i*SZ)))∧w.grownBy W (some g)):=by
  intro W hW e1 e2 e3;refine⟨⟨?_,.inr ⟨w.heap.size,G,c2,rfl,hB,?_,d7,by unfold maxLen;omega,by rw[←Array.length_toList,r2,Array.length_toList,a6],r3⟩⟩,⟨e1,e2,e3,by rw[hW];simp,fun k hk g5=> ?_⟩⟩
  ·simp only[List.length_append,List.length_take,List.length_drop,a4,b4];omega
  ·rw[hW];exact setRow_heap _ _ c1 c2 TE _ (setRow_heap _ _ a0 c1 TE _ b3)
  ·rw[hW,setRow_other _ _ _ _ (by omega),setRow_other _ _ _ _ (by omega)];exact heap_alloc_old w _ hk
 have a2:=a9 (w.alloc (.cells a0 TE)).drew rfl;have a3:=b1 ((w.alloc (.cells a0 TE)).drew.setRow w.heap.size c1).drew rfl;clear a9 b1;have g4:i≤n:=by omega
 have d3:¬((i:Int)=(n:Int)):=by omega
 have g8:(cap:Int)<(n:Int)+1:=by omega
 have g0:¬(G=i):=by omega
 have f0:¬(G=i+1):=by omega
 have g3:¬(cap=i):=by omega
 have g6:((i:Int)+1).toNat=i+1:=by omega
 have g7:IntKind.i64.wrap ((i:Int)+1)=(i:Int)+1:=by rw[IntKind.wrap_i64];omega
 have g1:(0:Int)≤(i:Int)+1:=by omega
 have g2:(i:Int)≤(n:Int):=by omega
 have HF:Hid (∀W:World,W.heap=(((w.alloc (.cells a0 TE)).setRow w.heap.size c1).setRow w.heap.size c2).heap→W.os=w.os→W.tape=w.tape→W.output=w.output→(W.ownsRow base TE SZ (.slice (some ⟨w.heap.size,0,none⟩) (n+1) G) (n+1) (xs.take (i*SZ)++(C.toList++xs.drop (i*SZ)))∧w.grownBy W (some g))):=d4;clear m0 m1 m2 m3 m4 m5 m6 m7;clear hg a5 r1 r2 r3 b8 a7 b9 a8 d6 d5 f3 c9 a4 e6 c7 b2 a1 hG a6 d8 b3 c8 d4 e8 b5;rcases hf with⟨rfl,rfl,rfl,rfl,rfl,rfl,rfl,rfl⟩|⟨rfl,rfl,rfl,rfl,rfl,rfl,rfl,rfl⟩|⟨rfl,rfl,rfl,rfl,rfl,rfl,rfl,rfl⟩
 all_goals
  try simp only[Nat.mul_one]at a2 a3
  first|go_enter Tryz.func149,Tryz.ntmps149|go_enter Tryz.func147,Tryz.ntmps147|go_enter Tryz.func85,Tryz.ntmps85
  go_wp2_with (first
   |(at_builtin;refine Lib.wpList_append_run _ (by rfl) _ _ _ _ (by rfl) _ _ (by rfl) (by rfl) _ _ (f6 _) ?_)
   |(simp only[a2]))
  go_region_law (refine stp_copy (by rfl) _ _ _ _ (by rfl) _ _ (by simp[Act.eval,Act.put]) (by simp[Act.eval,Act.put]) (a3 _ _ _) ?_)
  go_wp2;go_ret;exact⟨_,rfl,(HF.out _ (by rfl) (by rfl) (by rfl) (by rfl)).1,(HF.out _ (by rfl) (by rfl) (by rfl) (by rfl)).2,fun g' e=> .inr (by simp[Value.ownBlock]at e;omega)⟩
theorem OM (hf:qy FI FO TS TV TE SZ BY Z)(v:Value)(n i vb base:Nat)(xs:List Value)(C:Array Value)(w:World)(a0:w.ownsRow base TE SZ v n xs)(hB:base≤w.heap.size)(hi:i≤n)(hl:n≤1000000)
  (a1:w.heap[vb]? =some (.cells C TE (0,0)))(hC:C.size=SZ)(a8:v.ownBlock≠some vb)(a4:∀u∈xs,u.oneCell' =true)(a2:∀u∈C.toList,u.oneCell' =true):
  Calls Tryz.prog FI #[v,.int .i64 (i:Int),.slice (some ⟨vb,0,none⟩) 1 1] w fun e w' =>∃v',e= .returned v' ∧w'.ownsRow base TE SZ v' (n+1) (xs.take (i*SZ)++(C.toList++xs.drop (i*SZ)))∧w.grownBy w' v.ownBlock∧(∀g,v'.ownBlock=some g→v.ownBlock=some g∨w.heap.size≤g):=by
 by_cases a7:i=n
 ·subst a7
  have a9:xs.take (i*SZ)=xs:=List.take_of_length_le (by rw[a0.1];exact j0a _);have a6:xs.drop (i*SZ)=[]:=List.drop_eq_nil_of_le (by rw[a0.1];exact j0a _);rw[a9,a6,List.append_nil];exact gA hf v i vb base xs C w a0 hB hl a1 hC a2
 ·obtain⟨h1,h2⟩:=a0
  rcases h2 with⟨rfl,rfl⟩|⟨g,cap,a3,rfl,hb,hg,hn,a5,hs,ht⟩
  ·omega
  ·have b1:vb≠g:=fun e=>a8 (by rw[e];rfl)
   unfold maxLen at a5;by_cases hr:n+1≤cap
   ·exact oW hf g n cap i vb base xs C a3 w (by omega) hg hb hr (by omega) hs ht a1 hC b1 a4 a2
   ·exact oX hf g n cap i vb base xs C a3 w (by omega) hg hB hn (by omega) hl hs ht a1 hC a4 a2
end
theorem Cn:qy 149 200 45 45 9 1 16 (.string ⟨#[]⟩):= .inl ⟨rfl,rfl,rfl,rfl,rfl,rfl,rfl,rfl⟩
theorem CK:qy 147 196 93 92 139 5 72 (.agg #[.string ⟨#[]⟩,.int .i64 0,.int .i64 0,.string ⟨#[]⟩,.slice none 0 0]):= .inr (.inl ⟨rfl,rfl,rfl,rfl,rfl,rfl,rfl,rfl⟩)
theorem insB:qy 85 134 98 98 88 1 8 (.pointer none):= .inr (.inr ⟨rfl,rfl,rfl,rfl,rfl,rfl,rfl,rfl⟩)
def jK (FI TS TE SZ:Nat)(Z:Value):Prop:=
  (FI=151∧TS=45∧TE=9∧SZ=1∧Z= .string ⟨#[]⟩)∨
  (FI=161∧TS=93∧TE=139∧SZ=5∧Z= .agg #[.string ⟨#[]⟩,.int .i64 0,.int .i64 0,.string ⟨#[]⟩,.slice none 0 0])∨
  (FI=68∧TS=98∧TE=88∧SZ=1∧Z= .pointer none)
section
variable {FI TS TE SZ:Nat}{Z:Value}
theorem jK.uS (h:jK FI TS TE SZ Z):Tryz.prog.underlying TS=some (.slice TE):=by
 rcases h with⟨rfl,rfl,rfl,rfl,rfl⟩|⟨rfl,rfl,rfl,rfl,rfl⟩|⟨rfl,rfl,rfl,rfl,rfl⟩
 ·exact Tryz.underlying45
 ·exact Tryz.underlying93
 ·exact Tryz.underlying98
theorem jK.inf (h:jK FI TS TE SZ Z):∃BY,(Tryz.prog.info? TE).map (fun i=>(i.zero,i.size,i.bytes))=some (some Z,SZ,BY):=by
 rcases h with⟨rfl,rfl,rfl,rfl,rfl⟩|⟨rfl,rfl,rfl,rfl,rfl⟩|⟨rfl,rfl,rfl,rfl,rfl⟩
 ·exact⟨_,Tryz.info9⟩
 ·exact⟨_,Tryz.info139⟩
 ·exact⟨_,Tryz.info88⟩
theorem jK.z (h:jK FI TS TE SZ Z):(∀v∈Z.cells.toList,v.oneCell' =true)∧Z.cells.toList.length=SZ∧0<SZ:=by
 rcases h with⟨rfl,rfl,rfl,rfl,rfl⟩|⟨rfl,rfl,rfl,rfl,rfl⟩|⟨rfl,rfl,rfl,rfl,rfl⟩
 ·exact⟨by intro v hv;simp[Value.cells]at hv;rw[hv];rfl,by simp[Value.cells],by decide⟩
 ·exact⟨by intro v hv;simp[Value.cells]at hv;rcases hv with rfl|rfl|rfl|rfl<;>rfl,by simp[Value.cells],by decide⟩
 ·exact⟨by intro v hv;simp[Value.cells]at hv;rw[hv];rfl,by simp[Value.cells],by decide⟩
theorem GN (hf:jK FI TS TE SZ Z)(g m cap i base:Nat)(xs:List Value)(a0:Array Value)(w:World)(hi:i≤m)(hg:w.heap[g]? =some (.cells a0 TE (0,0)))(c8:base≤g)(b3:m+1≤cap)(d6:cap≤9223372036854775807)(a4:a0.size=cap*SZ)(a7:a0.toList.take ((m+1)*SZ)=xs)
  (b5:∀u∈xs,u.oneCell' =true):
  Calls Tryz.prog FI #[.slice (some ⟨g,0,none⟩) (m+1) cap,.int .i64 (i:Int),.int .i64 ((i:Int)+1)] w fun e w' =>∃v',e= .returned v' ∧w'.ownsRow base TE SZ v' m (xs.take (i*SZ)++xs.drop ((i+1)*SZ))∧w.grownBy w' (some g)∧(∀g',v'.ownBlock=some g' →some g=some g' ∨w.heap.size≤g'):=by
 have m0:(i+1)*SZ=i*SZ+SZ:=Nat.succ_mul i SZ;have m1:(m+1)*SZ=m*SZ+SZ:=Nat.succ_mul m SZ;have m2:i*SZ≤m*SZ:=Nat.mul_le_mul_right SZ hi;have m3:(m+1)*SZ≤cap*SZ:=Nat.mul_le_mul_right SZ b3;have m4:(m-i)*SZ=m*SZ-i*SZ:=Nat.sub_mul m i SZ;obtain⟨b6,a8,h0⟩:=hf.z;have a1:xs.length=(m+1)*SZ:=by rw[←a7,List.length_take,Array.length_toList];omega
 obtain⟨BY,a5⟩:=hf.inf;obtain⟨i0,b4,c6,c7,d4⟩:=info_parts a5;obtain⟨r1,r2,r3⟩:=Fi a0.toList xs Z.cells.toList m i SZ hi a1 a8 (by rw[Array.length_toList,a4];omega) a7;have b9:∀j u,xs[j]? =some u→w.cell? ⟨g,j,none⟩=some u:=fun j u hj=>by
  rw[←a7,List.getElem?_take]at hj;split at hj
  ·simp only[World.cell?,hg];simpa using hj
  ·cases hj
 obtain⟨A,hA,a6⟩:∃A:Addr,(if cap=i+1 then some (⟨g,0,none⟩:Addr)else some ⟨g,(i+1)*SZ,none⟩)=some A∧∀j u,(xs.drop ((i+1)*SZ))[j]? =some u→w.cell? (A.add j)=some u:=by
  by_cases h:cap=i+1
  ·refine⟨⟨g,0,none⟩,by simp[h],fun j u hu=> ?_⟩
   rw[List.drop_eq_nil_of_le (by rw[a1,←h];omega)]at hu;simp at hu
  ·refine⟨⟨g,(i+1)*SZ,none⟩,by simp[h],fun j u hu=> ?_⟩
   rw[yO];rw[List.getElem?_drop]at hu;exact b9 _ _ hu
 obtain⟨c1,b1⟩:∃c1:Array Value,c1=(a0.toList.take (i*SZ)++xs.drop ((i+1)*SZ)++a0.toList.drop (i*SZ+(xs.drop ((i+1)*SZ)).length)).toArray:=⟨_,rfl⟩
 have a2:c1.toList=a0.toList.take (i*SZ)++xs.drop ((i+1)*SZ)++a0.toList.drop (i*SZ+(xs.drop ((i+1)*SZ)).length):=by rw[b1]
 rw[←a2]at r1 r2 r3;obtain⟨c2,b2⟩:∃c2:Array Value,c2=(c1.toList.take (m*SZ)++Z.cells.toList++c1.toList.drop (m*SZ+Z.cells.toList.length)).toArray:=⟨_,rfl⟩
 have a3:c2.toList=c1.toList.take (m*SZ)++Z.cells.toList++c1.toList.drop (m*SZ+Z.cells.toList.length):=by rw[b2]
 rw[←a3]at r2 r3;have a9:∀ty dc,(Builtin.append_ #[TS,TS] ty #[.slice (some ⟨g,0,none⟩) i cap,.slice (some A) (m-i) dc]).run Tryz.prog w.drew= .ok (.slice (some ⟨g,0,none⟩) (i+(m-i)) cap) (w.drew.setRow g c1):=fun ty dc=>by
  have h:=Uf (P:=Tryz.prog) w.drew TS ty TE i0 SZ g i cap A (m-i) dc a0 TE (xs.drop ((i+1)*SZ)) hf.uS b4 c7 hg (by rw[List.length_drop,a1];omega) a6 (fun u hu=>b5 u (List.mem_of_mem_drop hu)) (by omega) (by rw[List.length_drop,a1,a4];omega);rw[←b1]at h;exact h
 have b7:∀ty dc,(Builtin.clear_ #[TS] ty #[.slice (some ⟨g,m*SZ,none⟩) 1 dc]).run Tryz.prog (w.drew.setRow g c1)= .ok (.tuple #[]) ((w.drew.setRow g c1).setRow g c2):=fun ty dc=>by
  have h:=o_ (P:=Tryz.prog) (w.drew.setRow g c1) TS ty TE i0 Z SZ g (m*SZ) 1 dc c1 TE hf.uS b4 c6 (by simpa using a8) b6 (setRow_heap w.drew g a0 c1 TE _ hg) (by rw[←Array.length_toList,r1,Array.length_toList,a4];omega) h0 rfl;rw[←b2]at h;exact h
 have HF:Hid (((w.drew.setRow g c1).setRow g c2).ownsRow base TE SZ (.slice (some ⟨g,0,none⟩) m cap) m (xs.take (i*SZ)++xs.drop ((i+1)*SZ))∧w.grownBy ((w.drew.setRow g c1).setRow g c2) (some g)):=by
  refine⟨⟨?_,.inr ⟨g,cap,c2,rfl,c8,?_,by omega,by unfold maxLen;omega,by rw[←Array.length_toList,r2,Array.length_toList,a4],r3⟩⟩,⟨rfl,rfl,rfl,by simp,fun k hk b8=> ?_⟩⟩
  ·simp only[List.length_append,List.length_take,List.length_drop,a1];omega
  ·exact setRow_heap _ g c1 c2 TE _ (setRow_heap w.drew g a0 c1 TE _ hg)
  ·rw[setRow_other _ _ _ _ (by rintro rfl;exact b8 rfl),setRow_other _ _ _ _ (by rintro rfl;exact b8 rfl)];rfl
 have d8:i≤cap:=by omega
 have d9:¬((i:Int)=(i:Int)+1):=by omega
 have e2:IntKind.i64.wrap ((i:Int)+1)=(i:Int)+1:=by rw[IntKind.wrap_i64];omega
 have e1:((i:Int)+1).toNat=i+1:=by omega
 have d5:(0:Int)≤(i:Int)+1:=by omega
 have d3:i+(m-i)=m:=by omega
 have c9:¬(cap=m):=by omega
 have d7:(i:Int)≤(m:Int):=by omega
 rw[d3]at a9;clear m0 m1 m2 m3 m4 h0 a5;clear hg r1 r2 r3 b1 a2 b2 a3 b5 a4 a7 a1 b9 a6 b6 a8 c6 c7 d4 b4;rcases hf with⟨rfl,rfl,rfl,rfl,rfl⟩|⟨rfl,rfl,rfl,rfl,rfl⟩|⟨rfl,rfl,rfl,rfl,rfl⟩
 all_goals
  try simp only[Nat.mul_one]at a9 b7 hA
  first|go_enter Tryz.func151,Tryz.ntmps151|go_enter Tryz.func161,Tryz.ntmps161|go_enter Tryz.func68,Tryz.ntmps68
  go_wp2_with fail
  go_region_law (refine QK (by rfl) (.tmp 22) (.tmp 25) _ _ (by rfl) (.slice (some ⟨g,0,none⟩) i cap) (.slice (some A) (m-i) (cap-(i+1))) (by simp[Act.eval,Act.put]) (by simp[Act.eval,Act.put]) (a9 _ _) ?_)
  go_wp2_with (simp only[b7])
  go_ret;exact⟨_,rfl,HF.out.1,HF.out.2,fun g' e=> .inl e⟩
theorem c7 (hf:jK FI TS TE SZ Z)(v:Value)(n i base:Nat)(xs:List Value)(w:World)(a0:w.ownsRow base TE SZ v n xs)(hi:i<n)(a2:∀u∈xs,u.oneCell' =true):
  Calls Tryz.prog FI #[v,.int .i64 (i:Int),.int .i64 ((i:Int)+1)] w fun e w' =>∃v',e= .returned v' ∧w'.ownsRow base TE SZ v' (n-1) (xs.take (i*SZ)++xs.drop ((i+1)*SZ))∧w.grownBy w' v.ownBlock∧(∀g,v'.ownBlock=some g→v.ownBlock=some g∨w.heap.size≤g):=by
 obtain⟨h1,h2⟩:=a0;rcases h2 with⟨rfl,rfl⟩|⟨g,cap,a1,rfl,hb,hg,hn,a3,hs,ht⟩
 ·omega
 ·unfold maxLen at a3
  obtain⟨m,rfl⟩:∃m,n=m+1:=⟨n-1,by omega⟩
  exact GN hf g m cap i base xs a1 w (by omega) hg hb hn (by omega) hs ht a2
end
theorem CL:jK 151 45 9 1 (.string ⟨#[]⟩):= .inl ⟨rfl,rfl,rfl,rfl,rfl⟩
theorem CM:jK 161 93 139 5 (.agg #[.string ⟨#[]⟩,.int .i64 0,.int .i64 0,.string ⟨#[]⟩,.slice none 0 0]):= .inr (.inl ⟨rfl,rfl,rfl,rfl,rfl⟩)
