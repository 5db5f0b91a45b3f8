import Derived.Test.YtolgebdmffcemaaGreatDoorQ10
import Derived.Deep.QuietTactic
import Derived.BigQuiet
import Derived.WalkSmall
import Derived.Lib.ItoaMem
import Derived.Deep.RegionWith
import Derived.Deep.RegionHeld3
set_option linter.all false
set_option maxHeartbeats 20000000
set_option maxRecDepth 1000000
namespace Go.Proofs.YtolgebdmffcemaaGreatDoor
open Go.RowKit
theorem Fb (v:Value)(l:List (List UInt8))(s:List UInt8)(w:World)(M:Nat→Prop)(h:Rd w M v l.length (l.map S)):
  Calls Tryz.prog 172 #[v,.string ⟨s.toArray⟩] w fun e w' =>e= .returned (.bool (l.any fun x=>x==s))∧w' =w:=by
 obtain⟨a,cap,rfl,hn,hm,hc⟩:=h;unfold maxLen at hm;go_enter Tryz.func172,Tryz.ntmps172;go_wp2;go_loop [5] (fun i=>∃k:Nat,k≤l.length∧i= .int .i64 k∧((l.take k).any fun x=>x==s)=false) (fun i=>l.length-(intOf i).toNat)
 case atStart=>exact⟨0,Nat.zero_le _,rfl,rfl⟩
 case round=>
  obtain⟨k,hk,rfl,a1⟩:=hrel;by_cases a2:k<l.length
  ·obtain⟨b,off,rfl,_,_,a0⟩:=hc (by omega)
   have hx:w.cell? ⟨b,off+k,none⟩=some (.string ⟨l[k].toArray⟩):=a0 k _ (by simp[S,a2]);clear a0 hc;go_wp2
   ·go_ret;exact⟨zm (R.any_hit l _ k a2 ‹_›),rfl⟩
   ·go_round
    case rel=>exact⟨k+1,by omega,by go_num,R.any_snoc l _ k a2 a1 ‹_›⟩
    case measure=>simp[intOf];omega
  ·go_wp2
   go_ret;exact⟨zm (R.any_end l _ k a2 a1),rfl⟩
theorem g8 (s t:List UInt8)(hl:s.length<t.length):R.leads s t=((({data:=t.toArray}:ByteArray).extract 0 s.length).toList==s&&((({data:=t.toArray}:ByteArray)[s.length]'(by simpa[ByteArray.size]using hl)).toNat:Int)==47):=by
 rw[ByteArray.extract_mk,ByteArray.toList_mk];have e:(({data:=t.toArray}:ByteArray)[s.length]'(by simpa[ByteArray.size]using hl))=t[s.length]:=by
  show(t.toArray)[s.length]=_;simp
 rw[e,R.leads,decide_eq_true hl,j0d hl];simp only[List.drop_zero,Nat.sub_zero,Bool.true_and];congr 1
 rw[Bool.eq_iff_iff];simp only[beq_iff_eq,Option.some.injEq];constructor
 ·intro h;rw[h];rfl
 ·intro h;exact UInt8.toNat_inj.1 (by simpa using Int.ofNat.inj h)
theorem UQ (s t:List UInt8)(w:World):
  Calls Tryz.prog 216 #[.string ⟨s.toArray⟩,.string ⟨t.toArray⟩] w fun e w' =>e= .returned (.bool (R.leads s t))∧w' =w:=by
 by_cases hl:s.length<t.length
 ·go_enter Tryz.func216,Tryz.ntmps216
  go_wp2
  all_goals(go_ret;exact⟨zm (by rw[g8 s t hl];simp[*]),rfl⟩)
 ·go_enter Tryz.func216,Tryz.ntmps216
  go_wp2;go_ret;exact⟨zm (by rw[R.leads,decide_eq_false hl];rfl),rfl⟩
def Yr (s:List UInt8)(k q:Nat)(ps:List (List UInt8)):Prop:=q≤k∧(∀c∈(s.drop q).take (k-q),c≠47)∧R.spl s=ps++R.spl (s.drop q)
theorem Yr.hit {s:List UInt8}{k q:Nat}{ps:List (List UInt8)}(h:Yr s k q ps)(hk:k<s.length)(a0:s[k]=47):Yr s (k+1) (k+1) (ps++ [(s.drop q).take (k-q)]):=by
 obtain⟨h1,h2,h3⟩:=h;refine⟨j0a _,by simp,?_⟩;have e:s.drop q=(s.drop q).take (k-q)++47::s.drop (k+1):=by
  conv=>lhs;rw[←List.take_append_drop (k-q) (s.drop q)]
  rw[List.drop_drop,show q+(k-q)=k from by omega,List.drop_eq_getElem_cons hk,a0]
 rw[h3];conv=>lhs;rw[e,R.spl_cut _ _ h2]
 simp
theorem Yr.miss {s:List UInt8}{k q:Nat}{ps:List (List UInt8)}(h:Yr s k q ps)(hk:k<s.length)(a0:s[k]≠47):Yr s (k+1) q ps:=by
 obtain⟨h1,h2,h3⟩:=h;refine⟨by omega,?_,h3⟩;have a1:k-q<(s.drop q).length:=by simp;omega
 rw[show k+1-q=(k-q)+1 from by omega,List.take_succ_eq_append_getElem a1];intro c hc;rcases List.mem_append.1 hc with hc|hc
 ·exact h2 c hc
 ·rw[List.mem_singleton]at hc
  rw[hc,List.getElem_drop];simpa[show q+(k-q)=k from by omega]using a0
theorem Yr.last {s:List UInt8}{q:Nat}{ps:List (List UInt8)}(h:Yr s s.length q ps):R.spl s=ps++ [(s.drop q).take (s.length-q)]:=by
 obtain⟨h1,h2,h3⟩:=h;rw[h3];rw[List.take_of_length_le (by simp)]at h2⊢;rw[R.spl_plain _ h2]
theorem Yl (s:List UInt8)(q k:Nat):Value.string (({data:=s.toArray}:ByteArray).extract q k)=S ((s.drop q).take (k-q)):=by
 rw[ByteArray.extract_mk];rfl
theorem Zp (s:List UInt8)(k:Nat)(_h:k<s.length)(hb:k<({data:=s.toArray}:ByteArray).size):(({data:=s.toArray}:ByteArray)[k]'hb)=s[k]:=by
 show(s.toArray)[k]=_;simp
theorem jS (s:List UInt8)(w:World)(hs:s.length≤1000):
  Calls Tryz.prog 215 #[.string ⟨s.toArray⟩] w fun e w' =>∃v,e= .returned v∧w'.ownsRow w.heap.size 9 1 v (R.spl s).length ((R.spl s).map S)∧Below w.heap.size w w' :=by
 go_enter Tryz.func215,Tryz.ntmps215;go_wp2;go_loopw [3,4,5] (fun v f i wr=>∃(k q:Nat) (ps:List (List UInt8)),i= .int .i64 k∧f= .int .i64 q∧ps.length≤k∧wr.ownsRow w.heap.size 9 1 v ps.length (ps.map S)∧Below w.heap.size w wr∧
   ((k≤s.length∧Yr s k q ps)∨(k=s.length+1∧ps=R.spl s))) (fun _ _ i _=>s.length+1-(intOf i).toNat)
 case atStart=>exact⟨0,0,[],rfl,rfl,j0a _,World.ownsRow_nil _ _ _ _,j0g _ _,.inl ⟨Nat.zero_le _,j0a _,by simp,by simp⟩⟩
 case round=>
  obtain⟨k,q,ps,rfl,rfl,b2,a1,hb,a4⟩:=hrel;have a8:=hb.size;by_cases b0:k≤s.length
  ·have hA:Yr s k q ps:=by
    rcases a4 with h|h
    ·exact h.2
    ·omega
   clear a4;have hq:=hA.1;by_cases a0:k<s.length
   ·by_cases a3:s[k]=47
    ·have a6:((({data:=s.toArray}:ByteArray)[k]'(by simpa[ByteArray.size]using a0)).toNat:Int)=47:=by rw[Zp s k a0,a3];rfl
     have a9:((k:Int)==(s.length:Int))=false:=by simp;omega
     have a5:Hid (s[k]=47):=a3;clear a3;go_wp2_with (at_builtin;go_loud (refine Zi wr rfl _ _ 45 rfl w.heap.size 9 (.string ⟨#[]⟩) 1 16 Tryz.underlying45 Tryz.info9 rfl (by decide) a1 _ rfl (by rfl) (by rfl) (by intro u hu;simp at hu;subst hu;rfl) (by unfold maxLen;omega) (by omega) (by omega) ?_))
     intro v' w1 a2 a7;go_wp2;go_roundw
     case rel=>
      refine⟨k+1,k+1,ps++ [(s.drop q).take (k-q)],by go_num,by go_num,by simp;omega,?_,hb.grown a7 a8 (fun j hj=>(a1.lt j hj).1),.inl ⟨by omega,hA.hit a0 a5.out⟩⟩;simpa[Yl]using a2
     case measure=>simp[intOf];omega
    ·have a6:((({data:=s.toArray}:ByteArray)[k]'(by simpa[ByteArray.size]using a0)).toNat:Int)≠47:=by
      rw[Zp s k a0];intro h;exact a3 (UInt8.toNat_inj.1 (by simpa using Int.ofNat.inj h))
     have a9:((k:Int)==(s.length:Int))=false:=by simp;omega
     have b1:(((({data:=s.toArray}:ByteArray)[k]'(by simpa[ByteArray.size]using a0)).toNat:Int)==47)=false:=by simpa using a6
     clear a6;have a5:Hid (s[k]≠47):=a3;clear a3;go_wp2;go_roundw
     case rel=>exact⟨k+1,q,ps,by go_num,rfl,by omega,a1,hb,.inl ⟨by omega,hA.miss a0 a5.out⟩⟩
     case measure=>simp[intOf];omega
   ·obtain rfl:k=s.length:=by omega
    go_wp2_with (at_builtin;go_loud (refine Zi wr rfl _ _ 45 rfl w.heap.size 9 (.string ⟨#[]⟩) 1 16 Tryz.underlying45 Tryz.info9 rfl (by decide) a1 _ rfl (by rfl) (by rfl) (by intro u hu;simp at hu;subst hu;rfl) (by unfold maxLen;omega) (by omega) (by omega) ?_))
    intro v' w1 a2 a7;go_wp2;go_roundw
    case rel=>
     refine⟨s.length+1,s.length+1,ps++ [(s.drop q).take (s.length-q)],by go_num,by go_num,by simp;omega,?_,hb.grown a7 a8 (fun j hj=>(a1.lt j hj).1),.inr ⟨rfl,hA.last.symm⟩⟩;simpa[Yl]using a2
    case measure=>simp[intOf]
  ·obtain⟨-,rfl⟩:k=s.length+1∧ps=R.spl s:=by
    rcases a4 with h|h
    ·exact absurd h.1 b0
    ·exact h
   clear a4;go_wp2;go_ret;exact⟨_,rfl,a1,hb⟩
theorem uA (p:Nat)(h:p<10):(({data:= #[48,49,50,51,52,53,54,55,56,57]}:ByteArray).extract p (p+1))=⟨[UInt8.ofNat (48+p)].toArray⟩:=by
 have:∀q:Fin 10,(({data:= #[48,49,50,51,52,53,54,55,56,57]}:ByteArray).extract q.val (q.val+1))=⟨[UInt8.ofNat (48+q.val)].toArray⟩:=by decide+kernel
 exact this ⟨p,h⟩
theorem Z9 (x y:List UInt8):(ByteArray.mk x.toArray++ByteArray.mk y.toArray)=ByteArray.mk (x++y).toArray:=ByteArray.mk_append_mk x y
theorem Kp (m:Nat)(h:9<m):Lib.decDigits m=Lib.decDigits (m/10)++ [UInt8.ofNat (48+m % 10)]:=by
 conv=>lhs;unfold Lib.decDigits
 rw[dif_neg (by omega)]
theorem v_ (m:Nat)(h:¬9<m):Lib.decDigits m=[UInt8.ofNat (48+m)]:=by
 unfold Lib.decDigits;rw[dif_pos (by omega)]
theorem vB (n:Nat)(w:World)(h:n≤1000000000000):
  Calls Tryz.prog 244 #[.int .i64 n] w fun e w' =>e= .returned (.string ⟨(Lib.decDigits n).toArray⟩)∧w' =w:=by
 have a0:=Lib.itoa_length_le (n:Int) (by omega) (by omega);rw[Lib.itoa_nonneg]at a0;have HN:Hid ((Lib.decDigits n).length≤21):=a0;clear a0;go_enter Tryz.func244,Tryz.ntmps244;go_wp2;go_loop [0,3] (fun t s=>∃(m:Nat) (a1:List UInt8),m≤n∧t= .int .i64 m∧s= .string ⟨a1.toArray⟩∧Lib.decDigits n=Lib.decDigits m++a1) (fun t _=>(intOf t).toNat)
 case atStart=>exact⟨n,[],j0a _,rfl,rfl,by simp⟩
 case round=>
  obtain⟨m,a1,hm,rfl,rfl,he⟩:=hrel;have a2:a1.length≤21:=by have:=HN.out;rw[he,List.length_append]at this;omega
  have HE:Hid (Lib.decDigits n=Lib.decDigits m++a1):=he;clear he;by_cases h9:9<m
  ·have hd:=uA (m % 10) (by omega)
   have HD:Hid ((({data:= #[48,49,50,51,52,53,54,55,56,57]}:ByteArray).extract (m % 10) (m % 10+1))=⟨[UInt8.ofNat (48+m % 10)].toArray⟩):=hd;clear hd;go_wp2;go_round
   case rel=>exact⟨m/10,UInt8.ofNat (48+m % 10)::a1,by omega,by go_num,by rw[HD.out,Z9];rfl,by rw[HE.out,Kp m h9];simp⟩
   case measure=>simp[intOf];omega
  ·have HD:Hid ((({data:= #[48,49,50,51,52,53,54,55,56,57]}:ByteArray).extract m (m+1))=⟨[UInt8.ofNat (48+m)].toArray⟩):=uA m (by omega)
   go_wp2;go_ret;exact⟨ym (by rw[HD.out,Z9,HE.out,v_ m h9]),rfl⟩
theorem kT (n:Int)(w:World)(h:n≤1000000000000)(h' : -1000000000000≤n):
  Calls Tryz.prog 244 #[.int .i64 n] w fun e w' =>e= .returned (.string ⟨(Lib.itoa n).toArray⟩)∧w' =w:=by
 by_cases hn:n<0
 ·obtain⟨u,rfl⟩:∃u:Nat,n= -(u:Int):=⟨n.natAbs,by omega⟩
  have a0:=Lib.itoa_length_le (-(u:Int)) (by omega) (by omega);rw[Lib.itoa_neg u (by omega)]at a0⊢;have a1:(Lib.decDigits u).length≤21:=by simp only[List.length_cons]at a0;omega
  clear a0;go_enter Tryz.func244,Tryz.ntmps244;go_wp2_with fail
  refine(vB u _ (by omega)).mono ?_;rintro e w1 ⟨rfl,rfl⟩;go_wp2;go_ret;exact⟨ym (by rw[show({data:= #[45]}:ByteArray)=⟨[(45:UInt8)].toArray⟩from rfl,Z9];rfl),rfl⟩
 ·obtain⟨u,rfl⟩:∃u:Nat,n=(u:Int):=⟨n.toNat,by omega⟩
  rw[Lib.itoa_nonneg];exact vB u w (by omega)
theorem f9 (v:Value)(l:List (List UInt8))(s:List UInt8)(w:World)(M:Nat→Prop)(h:Rd w M v l.length (l.map S))(hl:l.length≤1000):
  Calls Tryz.prog 174 #[v,.string ⟨s.toArray⟩] w fun e w' =>∃v',e= .returned v' ∧w'.ownsRow w.heap.size 9 1 v' (R.item l s).length ((R.item l s).map S)∧Below w.heap.size w w' :=by
 obtain⟨a,cap,rfl,hn,hm,hc⟩:=h;unfold maxLen at hm;go_enter Tryz.func174,Tryz.ntmps174;go_wp2;go_loopw [5,6,7] (fun o d i wr=>∃(k:Nat) (done:Bool) (a2:List (List UInt8)),k≤l.length∧i= .int .i64 k∧d= .bool done∧wr.ownsRow w.heap.size 9 1 o a2.length (a2.map S)∧Below w.heap.size w wr∧a2.length≤2*k∧
   R.item l s=a2++R.itemL s done (l.drop k)) (fun _ _ i _=>l.length-(intOf i).toNat)
 case atStart=>exact⟨0,false,[],Nat.zero_le _,rfl,rfl,World.ownsRow_nil _ _ _ _,j0g _ _,by simp,by simp[R.item]⟩
 case round=>
  obtain⟨k,done,a2,hk,rfl,rfl,a1,hb,b6,he⟩:=hrel;have HE:Hid (R.item l s=a2++R.itemL s done (l.drop k)):=he;clear he;have a9:=hb.size;by_cases a7:k<l.length
  ·obtain⟨b,off,rfl,b1,_,a4⟩:=hc (by omega)
   have hx:wr.cell? ⟨b,off+k,none⟩=some (.string ⟨l[k].toArray⟩):=(hb.cell (by exact b1)).trans (a4 k _ (by simp[S,a7]));clear a4 hc;by_cases a5:s=l[k]
   ·have b2:(s==l[k])=true:=by simpa using a5
    have b3:(l[k]==s)=true:=by simpa using a5.symm
    have HS:Hid (s=l[k]):=a5;clear a5
    cases done
    ·go_wp2_with (at_builtin;go_loud (refine Zi wr rfl _ _ 45 rfl w.heap.size 9 (.string ⟨#[]⟩) 1 16 Tryz.underlying45 Tryz.info9 rfl (by decide) a1 _ rfl (by rfl) (by rfl) (by intro u hu;simp at hu;subst hu;rfl) (by unfold maxLen;omega) (by omega) (by omega) ?_))
     intro v' w1 a0 a3;have b5:w1.cell? ⟨b,off+k,none⟩=some (.string ⟨l[k].toArray⟩):=a3.cell hx (fun e=>by have:=(a1.lt b e.symm).1;omega);go_wp2;go_roundw
     case rel=>exact⟨k+1,true,a2++ [s],by omega,by go_num,rfl,by simpa[S]using a0,hb.grown a3 a9 (fun j hj=>(a1.lt j hj).1),by(try simp);omega,by rw[HE.out,R.itemL_from s l k a7];simp[b2,b3]⟩
     case measure=>simp[intOf];omega
    ·go_wp2
     go_roundw
     case rel=>exact⟨k+1,true,a2,by omega,by go_num,rfl,by simpa[S]using a1,hb,by(try simp);omega,by rw[HE.out,R.itemL_from s l k a7];simp[b2,b3]⟩
     case measure=>simp[intOf];omega
   ·have b2:(s==l[k])=false:=by simpa using a5
    have b3:(l[k]==s)=false:=by simpa using fun e=>a5 e.symm
    have HS:Hid (s≠l[k]):=a5;clear a5
    cases a6:Op.bytesLess s l[k]
    ·cases done
     all_goals
      go_wp2_with (at_builtin;go_loud (refine Zi wr rfl _ _ 45 rfl w.heap.size 9 (.string ⟨#[]⟩) 1 16 Tryz.underlying45 Tryz.info9 rfl (by decide) a1 _ rfl (by rfl) (by rfl) (by intro u hu;simp at hu;subst hu;rfl) (by unfold maxLen;omega) (by omega) (by omega) ?_))
      intro v' w1 a0 a3;go_wp2;go_roundw
      case rel=>exact⟨k+1,_,a2++ [l[k]],by omega,by go_num,rfl,by simpa[S]using a0,hb.grown a3 a9 (fun j hj=>(a1.lt j hj).1),by(try simp);omega,by rw[HE.out,R.itemL_from s l k a7];simp[b2,b3,a6]⟩
      case measure=>simp[intOf];omega
    ·cases done
     ·go_wp2_with (at_builtin;go_loud (refine Zi wr rfl _ _ 45 rfl w.heap.size 9 (.string ⟨#[]⟩) 1 16 Tryz.underlying45 Tryz.info9 rfl (by decide) a1 _ rfl (by rfl) (by rfl) (by intro u hu;simp at hu;subst hu;rfl) (by unfold maxLen;omega) (by omega) (by omega) ?_))
      intro v' w1 a0 a3;have b5:w1.cell? ⟨b,off+k,none⟩=some (.string ⟨l[k].toArray⟩):=a3.cell hx (fun e=>by have:=(a1.lt b e.symm).1;omega);have b4:=a3.size;go_wp2_with (at_builtin;go_loud (refine Zi w1 rfl _ _ 45 rfl w.heap.size 9 (.string ⟨#[]⟩) 1 16 Tryz.underlying45 Tryz.info9 rfl (by decide) a0 _ rfl (by rfl) (by rfl) (by intro u hu;simp at hu;subst hu;rfl) (by unfold maxLen;omega) (by omega) (by omega) ?_))
      intro v2 w2 a8 b0;go_wp2;go_roundw
      case rel=>exact⟨k+1,true,a2++ [s,l[k]],by omega,by go_num,rfl,by simpa[S]using a8,((hb.grown a3 a9 (fun j hj=>(a1.lt j hj).1)).grown b0 (by omega) (fun j hj=>(a0.lt j hj).1)),by(try simp);omega,by rw[HE.out,R.itemL_from s l k a7];simp[b2,b3,a6]⟩
      case measure=>simp[intOf];omega
     ·go_wp2_with (at_builtin;go_loud (refine Zi wr rfl _ _ 45 rfl w.heap.size 9 (.string ⟨#[]⟩) 1 16 Tryz.underlying45 Tryz.info9 rfl (by decide) a1 _ rfl (by rfl) (by rfl) (by intro u hu;simp at hu;subst hu;rfl) (by unfold maxLen;omega) (by omega) (by omega) ?_))
      intro v' w1 a0 a3;go_wp2;go_roundw
      case rel=>exact⟨k+1,true,a2++ [l[k]],by omega,by go_num,rfl,by simpa[S]using a0,hb.grown a3 a9 (fun j hj=>(a1.lt j hj).1),by(try simp);omega,by rw[HE.out,R.itemL_from s l k a7];simp[b2,b3,a6]⟩
      case measure=>simp[intOf];omega
  ·have HD:Hid (R.item l s=a2++if done then []else [s]):=by
    show R.item l s=_;rw[HE.out,List.drop_eq_nil_of_le (by omega),R.itemL]
   clear HE
   cases done
   ·go_wp2_with (at_builtin;go_loud (refine Zi wr rfl _ _ 45 rfl w.heap.size 9 (.string ⟨#[]⟩) 1 16 Tryz.underlying45 Tryz.info9 rfl (by decide) a1 _ rfl (by rfl) (by rfl) (by intro u hu;simp at hu;subst hu;rfl) (by unfold maxLen;omega) (by omega) (by omega) ?_))
    intro v' w1 a0 a3;go_wp2;go_ret;exact⟨_,rfl,by rw[HD.out];simpa[S]using a0,hb.grown a3 a9 (fun j hj=>(a1.lt j hj).1)⟩
   ·go_wp2
    go_ret;exact⟨_,rfl,by rw[HD.out];simpa[S]using a1,hb⟩
theorem kU (s:ByteArray)(w:World)(hs:s.size≤maxLen):
  Calls Tryz.prog 163 #[.string s] w fun e w' =>e= .returned (.bool (R.isName s.data.toList))∧w' =w:=by
 unfold maxLen at hs;go_enter Tryz.func163,Tryz.ntmps163;go_wp2;go_loop [3] (fun i=>∃k:Nat,k≤s.size∧i= .int .i64 k∧(s.data.toList.take k).all R.nb=true) (fun i=>s.size-(intOf i).toNat)
 case atStart=>exact⟨0,Nat.zero_le _,rfl,rfl⟩
 case round=>
  obtain⟨k,hk,rfl,a0⟩:=hrel;by_cases a1:k<s.size
  ·go_wp2
   all_goals first
    |(go_ret;exact⟨zm (R.isName_bad s k a1 (R.nb_no _ (by omega))),rfl⟩)
    |(go_round
      case rel=>exact⟨k+1,by omega,by go_num,R.take_all s R.nb k a1 a0 (R.nb_yes _ (by omega))⟩
      case measure=>simp[intOf];omega)
  ·go_wp2
   all_goals(go_ret;exact⟨zm (by rw[R.isName_end s k a1 a0];simp;try omega),rfl⟩)
theorem Xd (s:ByteArray)(w:World)(hs:s.size≤maxLen):
  Calls Tryz.prog 171 #[.string s] w fun e w' =>e= .returned (.bool (R.isText s.data.toList))∧w' =w:=by
 unfold maxLen at hs;by_cases a3:20<(s.size:Int)
 ·go_enter Tryz.func171,Tryz.ntmps171
  go_wp2;go_ret;exact⟨zm (R.isText_long s a3),rfl⟩
 go_enter Tryz.func171,Tryz.ntmps171;go_wp2;go_loop [3] (fun i=>∃k:Nat,k≤s.size∧i= .int .i64 k∧(s.data.toList.take k).all R.tb=true) (fun i=>s.size-(intOf i).toNat)
 case atStart=>exact⟨0,Nat.zero_le _,rfl,rfl⟩
 case round=>
  obtain⟨k,hk,rfl,a0⟩:=hrel;by_cases a1:k<s.size
  ·rcases ZZ (s[k].toNat:Int) 59 with⟨a2,a4⟩|⟨a2,a4⟩
   all_goals go_wp2
   all_goals first
    |(go_ret;exact⟨zm (R.isText_bad s k a1 (R.tb_no _ (by omega))),rfl⟩)
    |(go_round
      case rel=>exact⟨k+1,by omega,by go_num,R.take_all s R.tb k a1 a0 (R.tb_yes _ (by omega))⟩
      case measure=>simp[intOf];omega)
  ·go_wp2
   all_goals(go_ret;exact⟨zm (R.isText_end s k a1 (by omega) a0),rfl⟩)
theorem UR (s t:List UInt8)(w:World)(hs:s.length≤1000)(ht:t.length≤1000):
  Calls Tryz.prog 214 #[.string ⟨s.toArray⟩,.string ⟨t.toArray⟩] w fun e w' =>e= .returned (.bool (R.ahead s t))∧Below w.heap.size w w' :=by
 go_enter Tryz.func214,Tryz.ntmps214;go_wp2_with fail
 refine(jS s _ hs).mono ?_;rintro e w1 ⟨v1,rfl,b3,a6⟩;go_wp2_with fail
 refine(jS t _ ht).mono ?_;rintro e w2 ⟨v2,rfl,b4,a7⟩;have hB:Below w.heap.size w w2:=a6.trans (a7.mono a6.size);obtain⟨a1,b5,rfl,c8,c6,a8⟩:=(Rd.of_owns (M:=fun _=>False) b3 (fun _ h=>h.elim)).below a7;obtain⟨a2,b6,rfl,c9,c7,a9⟩:=Rd.of_owns (M:=fun _=>False) b4 (fun _ h=>h.elim);clear b3 b4 a6 a7;have HX:Hid (R.ahead s t=R.aheadL (R.spl s) (R.spl t)):=rfl;have l1:=(R.spl_length s).1;have l2:=(R.spl_length t).1;generalize R.spl s=x at*;generalize R.spl t=y at*;go_wp2;go_loopw [7] (fun i wr=>∃k q:Nat,k≤x.length∧k≤y.length∧i= .int .i64 k∧wr=w2.drewN q∧R.aheadL x y=R.aheadL (x.drop k) (y.drop k)) (fun i _=>x.length-(intOf i).toNat)
 case atStart=>exact⟨0,0,Nat.zero_le _,Nat.zero_le _,rfl,rfl,rfl⟩
 case round=>
  obtain⟨k,q,b8,b9,rfl,rfl,he⟩:=hrel;have HE:Hid (R.aheadL x y=R.aheadL (x.drop k) (y.drop k)):=he;clear he;by_cases b0:k<x.length∧k<y.length
  ·obtain⟨hx,hy⟩:=b0
   obtain⟨b1,o1,rfl,_,_,a0⟩:=a8 (by omega);have d3:w2.cell? ⟨b1,o1+k,none⟩=some (.string ⟨x[k].toArray⟩):=a0 k _ (by simp[S,hx]);obtain⟨b2,o2,rfl,_,_,a3⟩:=a9 (by omega);have d4:w2.cell? ⟨b2,o2+k,none⟩=some (.string ⟨y[k].toArray⟩):=a3 k _ (by simp[S,hy]);clear a0 a3 a8 a9;by_cases a4:x[k]=y[k]
   ·have b7:(x[k]==y[k])=true:=by simpa using a4
    have a5:Hid (x[k]=y[k]):=a4;clear a4;go_wp2;go_quiet (fail)
    go_wp2;go_roundw
    case rel=>exact⟨k+1,_,by omega,by omega,by go_num,rfl,by rw[HE.out,R.aheadL_step x y k hx hy a5.out]⟩
    case measure=>simp[intOf];omega
   ·have b7:(x[k]==y[k])=false:=by simpa using a4
    have a5:Hid (x[k]≠y[k]):=a4;clear a4;go_wp2;go_quiet (fail)
    go_wp2;go_quiet (fail)
    go_wp2;go_ret;exact⟨zm (by rw[HX.out,HE.out,R.aheadL_part x y k hx hy a5.out]),below_drewN (below_drewN (below_drewN hB _) _) _⟩
  ·by_cases hx:k<x.length
   all_goals
    go_wp2;go_ret;exact⟨zm (by rw[HX.out,HE.out,R.aheadL_end x y k b0 b8 b9];try simp),below_drewN hB _⟩
theorem y7 (s:List UInt8)(w:World)(hs:s.length≤maxLen):
  Calls Tryz.prog 168 #[.string ⟨s.toArray⟩] w fun e w' =>e= .returned (.bool (R.isPath s))∧Below w.heap.size w w' :=by
 unfold maxLen at hs;by_cases a6:100<s.length
 ·go_enter Tryz.func168,Tryz.ntmps168
  go_wp2;go_ret;exact⟨zm (by rw[R.isPath,decide_eq_false (by omega)];rfl),j0g _ _⟩
 go_enter Tryz.func168,Tryz.ntmps168;go_wp2_with fail
 refine(jS s _ (by omega)).mono ?_;rintro e w1 ⟨v1,rfl,a4,a2⟩;obtain⟨a1,a5,rfl,a9,a8,a3⟩:=Rd.of_owns (M:=fun _=>False) a4 (fun _ h=>h.elim);clear a4;have HX:Hid (R.isPath s=((R.spl s).all R.isName&&decide ((R.spl s).length≤4))):=by
  show R.isPath s=_;rw[R.isPath,decide_eq_true (by omega),Bool.true_and]
 have HL:Hid (∀p∈R.spl s,p.length≤1000):=fun p hp=>by have:=R.spl_mem s p hp;omega
 have l1:=(R.spl_length s).1;generalize R.spl s=x at*;go_wp2;go_loop [4] (fun i=>∃k:Nat,k≤x.length∧i= .int .i64 k∧(x.take k).all R.isName=true) (fun i=>x.length-(intOf i).toNat)
 case atStart=>exact⟨0,Nat.zero_le _,rfl,rfl⟩
 case round=>
  obtain⟨k,a7,rfl,he⟩:=hrel;have HE:Hid ((x.take k).all R.isName=true):=he;clear he;by_cases hx:k<x.length
  ·obtain⟨b1,o1,rfl,_,_,a0⟩:=a3 (by omega)
   have b0:w1.cell? ⟨b1,o1+k,none⟩=some (.string ⟨x[k].toArray⟩):=a0 k _ (by simp[S,hx]);clear a0 a3;go_wp2_with fail
   refine(kU _ _ (by have:=HL.out x[k] (j0c hx);simp[ByteArray.size,maxLen];omega)).mono ?_;rintro e w2 ⟨rfl,rfl⟩
   cases hr:R.isName x[k]
   ·have HR:Hid (R.isName x[k]=false):=hr
    clear hr;go_wp2;go_ret;exact⟨zm (by rw[HX.out,R.all_bad x _ k hx HR.out];rfl),a2⟩
   ·have HR:Hid (R.isName x[k]=true):=hr
    clear hr;go_wp2;go_round
    case rel=>exact⟨k+1,by omega,by go_num,R.all_snoc x _ k hx HE.out HR.out⟩
    case measure=>simp[intOf];omega
  ·go_wp2
   go_ret;exact⟨zm (by rw[HX.out,R.all_end x _ k hx HE.out,Bool.true_and];exact decide_eq_decide.2 (by omega)),a2⟩
theorem find_none {t:List R.Leaf}{p:List UInt8}{k:Nat}(h:¬k<t.length)(ha:((t.take k).any fun x=>x.path==p)=false):R.at_ t p=R.none p:=by
 have:=R.any_end t _ k h ha;unfold R.at_;rw[List.find?_eq_none.2 (by intro x hx;have:=List.any_eq_false.1 this x hx;simpa using this)];rfl
theorem un {t:List R.Leaf}{p:List UInt8}{k:Nat}(h:k<t.length)(ha:((t.take k).any fun x=>x.path==p)=false)(hp:(t[k].path==p)=true):R.at_ t p=t[k]:=by
 unfold R.at_;have e:t.find? (fun x=>x.path==p)=some t[k]:=by
  conv=>lhs;rw[←List.take_append_drop k t,List.find?_append,List.find?_eq_none.2 (by intro x hx;have:=List.any_eq_false.1 ha x hx;simpa using this),List.drop_eq_getElem_cons h,List.find?_cons_of_pos (by simpa using hp)]
  rfl
 rw[e];rfl
theorem OJ (v:Value)(t:List R.Leaf)(s:List UInt8)(w:World)(M:Nat→Prop)(h:Tr w M v t):
  Calls Tryz.prog 169 #[v,.string ⟨s.toArray⟩] w fun e w' =>∃iv,e= .returned (.agg (LC (R.at_ t s) iv).toArray)∧It w M (R.at_ t s,iv)∧Below w.heap.size w w' :=by
 obtain⟨L,rfl,⟨a,cap,rfl,hn,hm,hc⟩,hI⟩:=h;unfold maxLen at hm;go_enter Tryz.func169,Tryz.ntmps169;go_wp2;go_loop [5] (fun i=>∃k:Nat,k≤L.length∧i= .int .i64 k∧(((L.map (·.1)).take k).any fun x=>x.path==s)=false) (fun i=>L.length-(intOf i).toNat)
 case atStart=>exact⟨0,Nat.zero_le _,rfl,rfl⟩
 case round=>
  obtain⟨k,hk,rfl,a1⟩:=hrel;have HA:Hid ((((L.map (·.1)).take k).any fun x=>x.path==s)=false):=a1;clear a1;by_cases a2:k<L.length
  ·obtain⟨b,off,rfl,a4,_,a0⟩:=hc (by omega)
   obtain⟨x,ia,ic,HL,a3,c0,c1,c2,c3,c4⟩:=xW hI a0 k a2;have HP:Hid ((L.map (·.1))[k]'(by simpa using a2)=x):=by show _=_;simp[HL.out]
   clear a0 hc hI;go_wp2
   ·have hp:(x.path==s)=true:=by assumption
    have e:R.at_ (L.map (·.1)) s=x:=by rw[un (by simpa using a2) HA.out (by rw[HP.out];exact hp),HP.out]
    refine bodyPost_ret (v:= .agg (LC x (.slice ia x.items.length ic)).toArray) (by simp[results,Tryz.results169,go_sem,LC]) rfl ⟨_,by rw[e],by rw[e];exact a3,(j0g _ _).alloc (j0a _) _⟩
   ·have hp:(x.path==s)=false:=by assumption
    go_round
    case rel=>exact⟨k+1,by omega,by go_num,R.any_snoc _ _ k (by simpa using a2) HA.out (by rw[HP.out];exact hp)⟩
    case measure=>simp[intOf];omega
  ·go_wp2
   have e:R.at_ (L.map (·.1)) s=R.none s:=find_none (by simpa using a2) HA.out;refine bodyPost_ret (v:= .agg (LC (R.none s) (.slice none 0 0)).toArray) (by simp[results,Tryz.results169,go_sem,LC,R.none]) rfl ⟨_,by rw[e],by rw[e];exact⟨none,0,rfl,j0a _,by unfold maxLen;omega,fun h=>absurd h (Nat.lt_irrefl _)⟩,(j0g _ _).alloc (j0a _) _⟩
theorem Q8 (v:Value)(t:List R.Leaf)(s:List UInt8)(w:World)(M:Nat→Prop)(h:Tr w M v t):
  Calls Tryz.prog 173 #[v,.string ⟨s.toArray⟩] w fun e w' =>e= .returned (.bool (R.blocked t s))∧w' =w:=by
 obtain⟨L,rfl,⟨a,cap,rfl,hn,hm,hc⟩,hI⟩:=h;unfold maxLen at hm;go_enter Tryz.func173,Tryz.ntmps173;go_wp2;go_loop [5] (fun i=>∃k:Nat,k≤L.length∧i= .int .i64 k∧(((L.map (·.1)).take k).any fun x=>R.leads x.path s||R.leads s x.path)=false) (fun i=>L.length-(intOf i).toNat)
 case atStart=>exact⟨0,Nat.zero_le _,rfl,rfl⟩
 case round=>
  obtain⟨k,hk,rfl,a2⟩:=hrel;have HA:Hid ((((L.map (·.1)).take k).any fun x=>R.leads x.path s||R.leads s x.path)=false):=a2;clear a2;by_cases a1:k<L.length
  ·obtain⟨b,off,rfl,a3,_,a0⟩:=hc (by omega)
   obtain⟨x,ia,ic,HL,a4,c0,c1,c2,c3,c4⟩:=xW hI a0 k a1;have HP:Hid ((L.map (·.1))[k]'(by simpa using a1)=x):=by show _=_;simp[HL.out]
   clear a0 hc hI;go_wp2_with fail
   refine(UQ _ _ _).mono ?_;rintro e w2 ⟨rfl,rfl⟩;go_wp2_with fail
   refine(UQ _ _ _).mono ?_;rintro e w2 ⟨rfl,rfl⟩;have HB:Hid (∀c,(R.leads x.path s||R.leads s x.path)=c→((fun x:R.Leaf=>R.leads x.path s||R.leads s x.path) ((L.map (·.1))[k]'(by simpa using a1)))=c):=by
    intro c hc;rw[HP.out];exact hc
   generalize R.leads x.path s=l1 at HB⊢;generalize R.leads s x.path=l2 at HB⊢
   cases l1<;>cases l2
   case false.false=>
    go_wp2;go_round
    case rel=>exact⟨k+1,by omega,by go_num,R.any_snoc _ _ k (by simpa using a1) HA.out (HB.out _ rfl)⟩
    case measure=>simp[intOf];omega
   all_goals
    go_wp2;go_ret;exact⟨zm (R.any_hit _ _ k (by simpa using a1) (HB.out _ rfl)),rfl⟩
  ·go_wp2
   go_ret;exact⟨zm (R.any_end _ _ k (by simpa using a1) HA.out),rfl⟩
theorem yZ (l:List UInt8)(a:Array UInt8)(h:a.toList=l):({data:=a}:ByteArray)=⟨l.toArray⟩:=by subst h;simp
theorem qy (x:R.Leaf)(hg:R.Good x):(R.written x).length≤200000:=by
 obtain⟨_,g1,g2,g3,g4,g5⟩:=hg;have g6:=R.joinI_length _ g5;have a0:=Lib.itoa_length_le x.n (by omega) (by omega);unfold R.written;split
 ·simp only[List.length_cons];omega
 ·split<;>simp only[List.length_cons]<;>omega
theorem oF (x:R.Leaf)(iv:Value)(w:World)(M:Nat→Prop)(h:It w M (x,iv))(hg:R.Good x):
  Calls Tryz.prog 217 #[.agg (LC x iv).toArray] w fun e w' =>e= .returned (.string ⟨(R.written x).toArray⟩)∧Below w.heap.size w w' :=by
 obtain⟨a,cap,a4,hn,hm,hc⟩:=h;dsimp only at a4 hn hm hc;subst a4;unfold maxLen at hm;obtain⟨_,g1,g2,g3,g4,g5⟩:=hg;have g6:=R.joinI_length _ g5;show Calls Tryz.prog 217 #[.agg #[.string ⟨x.path.toArray⟩,.int .u8 x.kind,.int .i64 x.n,.string ⟨x.text.toArray⟩,.slice a x.items.length cap]] w _;rcases ZZ x.kind 35 with⟨a5,a1⟩|⟨a5,a1⟩
 ·have a7:=Lib.itoa_length_le x.n (by omega) (by omega)
  have HW:Hid (R.written x=35::Lib.itoa x.n):=by show _=_;rw[R.written,if_pos a1]
  clear a1;go_enter Tryz.func217,Tryz.ntmps217;go_wp2_with fail
  refine(kT _ _ g1 g2).mono ?_;rintro e w1 ⟨rfl,rfl⟩;go_wp2;go_ret;exact⟨ym (by rw[HW.out,yZ [35] #[35] rfl,Z9];rfl),(j0g _ _).alloc (j0a _) _⟩
 rcases ZZ x.kind 61 with⟨a6,a2⟩|⟨a6,a2⟩
 ·have HW:Hid (R.written x=61::x.text):=by show _=_;rw[R.written,if_neg a1,if_pos a2]
  clear a1 a2;go_enter Tryz.func217,Tryz.ntmps217;go_wp2;go_ret;exact⟨ym (by rw[HW.out,yZ [61] #[61] rfl,Z9];rfl),(j0g _ _).alloc (j0a _) _⟩
 have HW:Hid (R.written x=42::R.joinI x.items):=by show _=_;rw[R.written,if_neg a1,if_neg a2]
 clear a1 a2;go_enter Tryz.func217,Tryz.ntmps217;go_wp2;go_loop [3,4] (fun s i=>∃k:Nat,k≤x.items.length∧i= .int .i64 k∧s= .string ⟨(42::R.joinI (x.items.take k)).toArray⟩) (fun _ i=>x.items.length-(intOf i).toNat)
 case atStart=>exact⟨0,Nat.zero_le _,rfl,by simp[R.joinI]⟩
 case round=>
  obtain⟨k,hk,rfl,rfl⟩:=hrel;by_cases a3:k<x.items.length
  ·obtain⟨b,off,rfl,a8,_,a0⟩:=hc (by omega)
   have hx:w.cell? ⟨b,off+k,none⟩=some (.string ⟨x.items[k].toArray⟩):=a0 k _ (by simp[S,a3]);have b1:=g5 x.items[k] (j0c a3);have a9:=R.joinI_length (x.items.take k) (fun i hi=>g5 i (List.mem_of_mem_take hi));have b0:(x.items.take k).length≤100:=by simp;omega
   have HJ:Hid (R.joinI (x.items.take (k+1))=if k=0 then x.items[k]else R.joinI (x.items.take k)++59::x.items[k]):=by
    show _=_;rw[List.take_succ_eq_append_getElem a3];by_cases h0:k=0
    ·subst h0;simp[R.joinI]
    ·rw[if_neg h0,R.joinI_snoc _ _ (by intro e;have h:=congrArg List.length e;rw[List.length_take,List.length_nil]at h;omega)]
   have HK:Hid (k=0→R.joinI (x.items.take k)=[]):=by intro h0;subst h0;simp[R.joinI]
   generalize R.joinI (x.items.take k)=jj at*;generalize x.items[k]=xk at*;clear a0 hc;by_cases h0:0<k
   ·go_wp2
    go_round
    case rel=>exact⟨k+1,by omega,by go_num,by rw[HJ.out,if_neg (by omega),yZ [59] #[59] rfl,Z9,Z9];simp⟩
    case measure=>simp[intOf];omega
   ·go_wp2
    go_round
    case rel=>exact⟨k+1,by omega,by go_num,by rw[HJ.out,if_pos (by omega),HK.out (by omega),Z9];simp⟩
    case measure=>simp[intOf];omega
  ·go_wp2
   go_ret;exact⟨ym (by rw[HW.out,List.take_of_length_le (by omega)]),(j0g _ _).alloc (j0a _) _⟩
theorem Xc (v:Value)(t:List R.Leaf)(w:World)(M:Nat→Prop)(h:Tr w M v t)(hg:∀x∈t,R.Good x)(hl:t.length≤1000):
  Calls Tryz.prog 175 #[v] w fun e w' =>e= .returned (.string ⟨(R.Written t).toArray⟩)∧Below w.heap.size w w' :=by
 obtain⟨L,rfl,⟨a,cap,rfl,hn,hm,hc⟩,hI⟩:=h;unfold maxLen at hm;rw[List.length_map]at hl;go_enter Tryz.func175,Tryz.ntmps175;go_wp2;go_loopw [3,4] (fun s i wr=>∃(k:Nat) (a0:List UInt8),k≤L.length∧i= .int .i64 k∧s= .string ⟨a0.toArray⟩∧a0=R.Written ((L.map (·.1)).take k)∧a0.length≤k*1000000∧Below w.heap.size w wr) (fun _ i _=>L.length-(intOf i).toNat)
 case atStart=>exact⟨0,[],Nat.zero_le _,rfl,rfl,rfl,by simp,j0g _ _⟩
 case round=>
  obtain⟨k,a0,hk,rfl,rfl,he,a9,hb⟩:=hrel;have HE:Hid (a0=R.Written ((L.map (·.1)).take k)):=he;clear he;by_cases a3:k<L.length
  ·obtain⟨b,off,rfl,a2,_,a1⟩:=hc (by omega)
   obtain⟨x,ia,ic,HL,a7,c0,c1,c2,c3,c4⟩:=xW hI a1 k a3;have HP:Hid ((L.map (·.1))[k]'(by simpa using a3)=x):=by show _=_;simp[HL.out]
   have a4:R.Good x:=by
    have:=hg _ (j0c (l:=L.map (·.1)) (n:=k) (by simpa using a3));rwa[HP.out]at this
   have hp:=a4.path;have a8:=qy x a4;clear a1 hc hI hg;have e0:=hb.cell (p:=⟨b,off+k*5,none⟩) a2;have e1:=hb.cell (p:=⟨b,off+k*5+1,none⟩) a2;have e2:=hb.cell (p:=⟨b,off+k*5+2,none⟩) a2;have e3:=hb.cell (p:=⟨b,off+k*5+3,none⟩) a2;have e4:=hb.cell (p:=⟨b,off+k*5+4,none⟩) a2;rw[c0]at e0;rw[c1]at e1;rw[c2]at e2;rw[c3]at e3;rw[c4]at e4;have a5 :It wr M (x,.slice ia x.items.length ic):=Rd.below a7 hb;clear c0 c1 c2 c3 c4;have q1:¬9223372036854775807<a0.length+x.path.length:=by omega
   have q2:¬9223372036854775807<a0.length+x.path.length+1:=by omega
   have q3:¬9223372036854775807<a0.length+x.path.length+1+(R.written x).length:=by omega
   have q4:¬9223372036854775807<a0.length+x.path.length+1+(R.written x).length+1:=by omega
   go_wp2;go_region_held3 (fun w' =>w'.cell? ⟨b,off+k*5,none⟩=some (.string ⟨x.path.toArray⟩)∧w'.cell? ⟨b,off+k*5+1,none⟩=some (.int .u8 x.kind)∧w'.cell? ⟨b,off+k*5+2,none⟩=some (.int .i64 x.n)∧w'.cell? ⟨b,off+k*5+3,none⟩=some (.string ⟨x.text.toArray⟩)∧w'.cell? ⟨b,off+k*5+4,none⟩=some (.slice ia x.items.length ic))
    (go_keep) (((go_at_call 217;refine(oF x (.slice ia x.items.length ic) _ M (by exact a5) a4).mono ?_;rintro e w' ⟨rfl,a6⟩;have b0:∀o,w'.cell? ⟨b,o,none⟩=wr.cell? ⟨b,o,none⟩:=fun o=>a6.cell (p:=⟨b,o,none⟩) (j0b a2 hb.size))))
   go_wp2;go_roundw
   case rel=>
    refine⟨k+1,a0++R.line x,by omega,by go_num,?_,?_,?_,hb.drew.trans (a6.mono hb.size)⟩
    ·rw[yZ [32] #[32] rfl,yZ [10] #[10] rfl,Z9,Z9,Z9,Z9];simp[R.line]
    ·rw[R.Written_snoc _ k (by simpa using a3),HP.out,←HE.out]
    ·have:=R.line_length x a8 hp;rw[List.length_append];omega
   case measure=>simp[intOf];omega
  ·go_wp2
   go_ret;exact⟨ym (by rw[HE.out,List.take_of_length_le (by simp;omega)]),hb⟩
theorem Jz (v:Value)(t:List R.Leaf)(x:R.Leaf)(iv:Value)(w:World)(M:Nat→Prop)(h:Tr w M v t)(b6:It w M (x,iv))(hM:∀b,M b→b<w.heap.size)(hg:∀y∈t,y.path.length≤1000)(e8:x.path.length≤1000)(hl:t.length≤1000):
  Calls Tryz.prog 170 #[v,.agg (LC x iv).toArray] w fun e w' =>∃v',e= .returned v' ∧Tr w' M v' (R.set t x)∧Below w.heap.size w w' :=by
 obtain⟨L,rfl,⟨a,cap,rfl,hn,hm,hc⟩,hI⟩:=h;obtain⟨xa,xc,d9,c9,d5,d6⟩:=b6;dsimp only at d9 c9 d5 d6;subst d9;have b6:It w M (x,.slice xa x.items.length xc):=⟨xa,xc,rfl,c9,d5,d6⟩
 clear c9 d5 d6;unfold maxLen at hm;rw[List.length_map]at hl;show Calls Tryz.prog 170 #[.slice a L.length cap,.agg #[.string ⟨x.path.toArray⟩,.int .u8 x.kind,.int .i64 x.n,.string ⟨x.text.toArray⟩,.slice xa x.items.length xc]] w _;have e1:((x.kind==0):Bool)=decide (x.kind=0):=by rw[Bool.eq_iff_iff];simp
 have e2:Hid ((x.kind==0)=decide (x.kind=0)):=e1;clear e1;go_enter Tryz.func170,Tryz.ntmps170;go_wp2;generalize a5:w.alloc (.cells #[.string ⟨x.path.toArray⟩,.int .u8 x.kind,.int .i64 x.n,.string ⟨x.text.toArray⟩,.slice xa x.items.length xc] 216)=wb;have g0:wb.heap.size=w.heap.size+1:=by rw[←a5];simp
 have b8:Below w.heap.size w wb:=by rw[←a5];exact(j0g _ _).alloc (j0a _) _
 have x0:wb.cell? ⟨w.heap.size,0,none⟩=some (.string ⟨x.path.toArray⟩):=by rw[←a5];simp
 have x1:wb.cell? ⟨w.heap.size,1,none⟩=some (.int .u8 x.kind):=by rw[←a5];simp
 have x2:wb.cell? ⟨w.heap.size,2,none⟩=some (.int .i64 x.n):=by rw[←a5];simp
 have x3:wb.cell? ⟨w.heap.size,3,none⟩=some (.string ⟨x.text.toArray⟩):=by rw[←a5];simp
 have x4:wb.cell? ⟨w.heap.size,4,none⟩=some (.slice xa x.items.length xc):=by rw[←a5];simp
 clear a5;go_loopw [5,6,7] (fun o d i wr=>∃(k:Nat) (done:Bool) (a4:List (R.Leaf×Value)),k≤L.length∧i= .int .i64 k∧d= .bool done∧wr.ownsRow (w.heap.size+1) 216 5 o a4.length (Za a4)∧Below (w.heap.size+1) wb wr∧a4.length≤2*k∧
   (∀p∈a4,It w M p)∧R.set (L.map (·.1)) x=a4.map (·.1)++R.setL x done ((L.map (·.1)).drop k)) (fun _ _ i _=>L.length-(intOf i).toNat)
 case atStart=>exact⟨0,_,[],Nat.zero_le _,rfl,rfl,World.ownsRow_nil _ _ _ _,j0g _ _,by simp,by simp,by simp[R.set,e2.out]⟩
 case round=>
  obtain⟨k,done,a4,hk,rfl,rfl,a3,hb,f8,b5,he⟩:=hrel;have HM:Hid (∀p∈a4,It w M p):=b5;have HE:Hid (R.set (L.map (·.1)) x=a4.map (·.1)++R.setL x done ((L.map (·.1)).drop k)):=he;clear he b5;have f9:=hb.size;by_cases a8:k<L.length
  ·obtain⟨b,off,rfl,b4,_,a7⟩:=hc (by omega)
   obtain⟨y,ia,ic,HL,c7,c0,c1,c2,c3,c4⟩:=xW hI a7 k a8;have HP:Hid ((L.map (·.1))[k]'(by simpa using a8)=y):=by show _=_;simp[HL.out]
   have e9:y.path.length≤1000:=by
    have:=hg _ (j0c (l:=L.map (·.1)) (n:=k) (by simpa using a8));rwa[HP.out]at this
   clear a7 hc hI hg;have up:∀(bb o:Nat) (u:Value),bb<w.heap.size→w.cell? ⟨bb,o,none⟩=some u→wr.cell? ⟨bb,o,none⟩=some u:=fun bb o u h1 h2=>by
    rw[hb.cell (p:=⟨bb,o,none⟩) (Nat.lt_succ_of_lt h1),b8.cell (p:=⟨bb,o,none⟩) h1];exact h2
   have ux:∀(o:Nat) (u:Value),wb.cell? ⟨w.heap.size,o,none⟩=some u→wr.cell? ⟨w.heap.size,o,none⟩=some u:=fun o u h2=>by
    rw[hb.cell (p:=⟨w.heap.size,o,none⟩) (Nat.lt_succ_self _)];exact h2
   have d0:=up _ _ _ b4 c0;have d1:=up _ _ _ b4 c1;have d2:=up _ _ _ b4 c2;have d3:=up _ _ _ b4 c3;have d4:=up _ _ _ b4 c4;have p0:=ux _ _ x0;have p1:=ux _ _ x1;have p2:=ux _ _ x2;have p3:=ux _ _ x3;have p4:=ux _ _ x4;clear c0 c1 c2 c3 c4 up ux x0 x1 x2 x3 x4
   cases done
   ·go_wp2
    go_region_held3 (fun w' =>w'.cell? ⟨w.heap.size,0,none⟩=some (.string ⟨x.path.toArray⟩)∧w'.cell? ⟨b,off+k*5,none⟩=some (.string ⟨y.path.toArray⟩)) (go_keep)
     (((go_at_call 214;refine(UR x.path y.path _ e8 e9).mono ?_;rintro e w1 ⟨rfl,a6⟩;have d7:∀o,w1.cell? ⟨b,o,none⟩=wr.cell? ⟨b,o,none⟩:=fun o=>a6.cell (p:=⟨b,o,none⟩) (show b<wr.heap.size by omega);have d8:∀o,w1.cell? ⟨w.heap.size,o,none⟩=wr.cell? ⟨w.heap.size,o,none⟩:=fun o=>a6.cell (p:=⟨w.heap.size,o,none⟩) (show w.heap.size<wr.heap.size by omega))))
    rename_i b1;clear b1;have b9:Below wr.heap.size wr w1:=⟨a6.os,a6.tape,a6.output,a6.size,a6.block⟩
    have a0:=zw a3 b9;have b7:Below (w.heap.size+1) wb w1:=hb.trans (b9.mono (by omega));have f0:=b7.size;rw[←d7]at d0 d1 d2 d3 d4;rw[←d8]at p0 p1 p2 p3 p4;clear d7 d8 a3 a6 b9 hb;generalize hF:R.ahead x.path y.path=fst;have HF:Hid (R.ahead x.path y.path=fst):=hF;clear hF;rcases Bool.eq_false_or_eq_true (y.path==x.path)with b3|b3
    ·have b2:(x.path==y.path)=true:=by simpa using(beq_iff_eq.1 b3).symm
     cases fst
     all_goals
      go_wp2;go_quiet (fail)
      go_wp2_with (at_builtin;go_loud (refine Zi _ rfl _ _ 78 rfl (w.heap.size+1) 216 (.agg #[.string ⟨#[]⟩,.int .u8 0,.int .i64 0,.string ⟨#[]⟩,.slice none 0 0]) 5 72 Tryz.underlying78 Tryz.info216 rfl (by decide) (by exact a0) _ rfl (by rfl) (by rfl) (YE _ _ _ _ _ _ _) (by unfold maxLen;omega) (by omega) (by first|omega|(simp;omega)) ?_))
      intro v' w2 a1 a2;have e3 :=a2.cell d0 (fun e=>by have:=(a0.lt b e.symm).1;omega);have e4 :=a2.cell d1 (fun e=>by have:=(a0.lt b e.symm).1;omega);have e5 :=a2.cell d2 (fun e=>by have:=(a0.lt b e.symm).1;omega);have e6 :=a2.cell d3 (fun e=>by have:=(a0.lt b e.symm).1;omega);have e7 :=a2.cell d4 (fun e=>by have:=(a0.lt b e.symm).1;omega);have f3 :=a2.cell p0 (fun e=>by have:=(a0.lt w.heap.size e.symm).1;omega);have f4 :=a2.cell p1 (fun e=>by have:=(a0.lt w.heap.size e.symm).1;omega);have f5 :=a2.cell p2 (fun e=>by have:=(a0.lt w.heap.size e.symm).1;omega);have f6 :=a2.cell p3 (fun e=>by have:=(a0.lt w.heap.size e.symm).1;omega);have f7 :=a2.cell p4 (fun e=>by have:=(a0.lt w.heap.size e.symm).1;omega);clear d0 d1 d2 d3 d4 p0 p1 p2 p3 p4;go_wp2;go_quiet (fail)
      go_wp2;go_roundw
      case rel=>exact⟨k+1,true,a4++ [(x,.slice xa x.items.length xc)],by omega,by go_num,rfl,by first|(simpa[Z5,Za,LC]using a1)|(refine Zx ?_;simpa[Z5,Za,LC]using a1),below_drewN ((below_drewN b7 _).grown a2 (by simp;omega) (fun j hj=>(a0.lt j hj).1)) _,by(try simp);omega,(fun p hp=>by rcases List.mem_append.1 hp with h|h;exact HM.out p h;rw[List.mem_singleton]at h;subst h;exact b6),by rw[HE.out,R.setL_from x _ k (by simpa using a8),HP.out];simp[b2,b3,HF.out]⟩
      case measure=>simp[intOf];omega
    ·have b2:(x.path==y.path)=false:=by
      rw[Bool.eq_false_iff]at b3⊢;intro h;exact b3 (by simpa using(beq_iff_eq.1 h).symm)
     cases fst
     ·go_wp2
      go_quiet (fail)
      go_wp2;go_quiet (fail)
      go_wp2_with (at_builtin;go_loud (refine Zi _ rfl _ _ 78 rfl (w.heap.size+1) 216 (.agg #[.string ⟨#[]⟩,.int .u8 0,.int .i64 0,.string ⟨#[]⟩,.slice none 0 0]) 5 72 Tryz.underlying78 Tryz.info216 rfl (by decide) (by exact a0) _ rfl (by rfl) (by rfl) (YE _ _ _ _ _ _ _) (by unfold maxLen;omega) (by omega) (by first|omega|(simp;omega)) ?_))
      intro v' w2 a1 a2;go_wp2;go_roundw
      case rel=>exact⟨k+1,false,a4++ [(y,.slice ia y.items.length ic)],by omega,by go_num,rfl,by first|(simpa[Z5,Za,LC]using a1)|(refine Zx ?_;simpa[Z5,Za,LC]using a1),(below_drewN b7 _).grown a2 (by simp;omega) (fun j hj=>(a0.lt j hj).1),by(try simp);omega,(fun p hp=>by rcases List.mem_append.1 hp with h|h;exact HM.out p h;rw[List.mem_singleton]at h;subst h;exact c7),by rw[HE.out,R.setL_from x _ k (by simpa using a8),HP.out];simp[b2,b3,HF.out]⟩
      case measure=>simp[intOf];omega
     ·go_wp2
      go_quiet (fail)
      go_wp2_with (at_builtin;go_loud (refine Zi _ rfl _ _ 78 rfl (w.heap.size+1) 216 (.agg #[.string ⟨#[]⟩,.int .u8 0,.int .i64 0,.string ⟨#[]⟩,.slice none 0 0]) 5 72 Tryz.underlying78 Tryz.info216 rfl (by decide) (by exact a0) _ rfl (by rfl) (by rfl) (YE _ _ _ _ _ _ _) (by unfold maxLen;omega) (by omega) (by first|omega|(simp;omega)) ?_))
      intro v' w2 a1 a2;have e3 :=a2.cell d0 (fun e=>by have:=(a0.lt b e.symm).1;omega);have e4 :=a2.cell d1 (fun e=>by have:=(a0.lt b e.symm).1;omega);have e5 :=a2.cell d2 (fun e=>by have:=(a0.lt b e.symm).1;omega);have e6 :=a2.cell d3 (fun e=>by have:=(a0.lt b e.symm).1;omega);have e7 :=a2.cell d4 (fun e=>by have:=(a0.lt b e.symm).1;omega);have f3 :=a2.cell p0 (fun e=>by have:=(a0.lt w.heap.size e.symm).1;omega);have f4 :=a2.cell p1 (fun e=>by have:=(a0.lt w.heap.size e.symm).1;omega);have f5 :=a2.cell p2 (fun e=>by have:=(a0.lt w.heap.size e.symm).1;omega);have f6 :=a2.cell p3 (fun e=>by have:=(a0.lt w.heap.size e.symm).1;omega);have f7 :=a2.cell p4 (fun e=>by have:=(a0.lt w.heap.size e.symm).1;omega);clear d0 d1 d2 d3 d4 p0 p1 p2 p3 p4;have c8:=a2.size;simp only[World.heap_drewN]at c8;go_wp2;go_quiet (fail)
      go_wp2_with (at_builtin;go_loud (refine Zi _ rfl _ _ 78 rfl (w.heap.size+1) 216 (.agg #[.string ⟨#[]⟩,.int .u8 0,.int .i64 0,.string ⟨#[]⟩,.slice none 0 0]) 5 72 Tryz.underlying78 Tryz.info216 rfl (by decide) (by exact a1) _ rfl (by rfl) (by rfl) (YE _ _ _ _ _ _ _) (by unfold maxLen;omega) (by omega) (by first|omega|(simp;omega)) ?_))
      intro v3 w3 a9 c6;go_wp2;go_roundw
      case rel=>exact⟨k+1,true,a4++ [(x,.slice xa x.items.length xc),(y,.slice ia y.items.length ic)],by omega,by go_num,rfl,by first|(simpa[Z5,Za,LC]using a9)|(refine Zx ?_;simpa[Z5,Za,LC]using a9),(below_drewN ((below_drewN b7 _).grown a2 (by simp;omega) (fun j hj=>(a0.lt j hj).1)) _).grown c6 (by simp;omega) (fun j hj=>(a1.lt j hj).1),by(try simp);omega,(fun p hp=>by rcases List.mem_append.1 hp with h|h;exact HM.out p h;simp at h;rcases h with rfl|rfl;exact b6;exact c7),by rw[HE.out,R.setL_from x _ k (by simpa using a8),HP.out];simp[b2,b3,HF.out]⟩
      case measure=>simp[intOf];omega
   ·rcases Bool.eq_false_or_eq_true (y.path==x.path)with b3|b3
    ·go_wp2
     go_quiet (fail)
     go_wp2;go_roundw
     case rel=>exact⟨k+1,true,a4,by omega,by go_num,rfl,by first|(simpa[Z5,Za,LC]using a3)|(refine Zx ?_;simpa[Z5,Za,LC]using a3),below_drewN hb _,by(try simp);omega,HM.out,by rw[HE.out,R.setL_from x _ k (by simpa using a8),HP.out];simp[b3]⟩
     case measure=>simp[intOf];omega
    ·go_wp2
     go_quiet (fail)
     go_wp2_with (at_builtin;go_loud (refine Zi _ rfl _ _ 78 rfl (w.heap.size+1) 216 (.agg #[.string ⟨#[]⟩,.int .u8 0,.int .i64 0,.string ⟨#[]⟩,.slice none 0 0]) 5 72 Tryz.underlying78 Tryz.info216 rfl (by decide) (by exact a3) _ rfl (by rfl) (by rfl) (YE _ _ _ _ _ _ _) (by unfold maxLen;omega) (by omega) (by first|omega|(simp;omega)) ?_))
     intro v' w2 a1 a2;go_wp2;go_roundw
     case rel=>exact⟨k+1,true,a4++ [(y,.slice ia y.items.length ic)],by omega,by go_num,rfl,by first|(simpa[Z5,Za,LC]using a1)|(refine Zx ?_;simpa[Z5,Za,LC]using a1),(below_drewN hb _).grown a2 (by simp;omega) (fun j hj=>(a3.lt j hj).1),by(try simp);omega,(fun p hp=>by rcases List.mem_append.1 hp with h|h;exact HM.out p h;rw[List.mem_singleton]at h;subst h;exact c7),by rw[HE.out,R.setL_from x _ k (by simpa using a8),HP.out];simp[b3]⟩
     case measure=>simp[intOf];omega
  ·have ux:∀(o:Nat) (u:Value),wb.cell? ⟨w.heap.size,o,none⟩=some u→wr.cell? ⟨w.heap.size,o,none⟩=some u:=fun o u h2=>by
    rw[hb.cell (p:=⟨w.heap.size,o,none⟩) (Nat.lt_succ_self _)];exact h2
   have p0:=ux _ _ x0;have p1:=ux _ _ x1;have p2:=ux _ _ x2;have p3:=ux _ _ x3;have p4:=ux _ _ x4;clear ux x0 x1 x2 x3 x4;have HD:Hid (R.set (L.map (·.1)) x=a4.map (·.1)++if done then []else [x]):=by
    show R.set (L.map (·.1)) x=_;rw[HE.out,List.drop_eq_nil_of_le (by simp;omega),R.setL]
   clear HE
   cases done
   ·go_wp2_with (at_builtin;go_loud (refine Zi wr rfl _ _ 78 rfl (w.heap.size+1) 216 (.agg #[.string ⟨#[]⟩,.int .u8 0,.int .i64 0,.string ⟨#[]⟩,.slice none 0 0]) 5 72 Tryz.underlying78 Tryz.info216 rfl (by decide) a3 _ rfl (by rfl) (by rfl) (YE _ _ _ _ _ _ _) (by unfold maxLen;omega) (by omega) (by first|omega|(simp;omega)) ?_))
    intro v' w2 a1 a2;go_wp2;go_ret;have b0:Below w.heap.size w w2:=b8.trans ((hb.grown a2 (by omega) (fun j hj=>(a3.lt j hj).1)).mono (by omega));refine⟨_,rfl,⟨a4++ [(x,.slice xa x.items.length xc)],by rw[HD.out];simp,?_,fun p hp=>Rd.below (((fun p hp=>by rcases List.mem_append.1 hp with h|h;exact HM.out p h;rw[List.mem_singleton]at h;subst h;exact b6):∀p∈a4++ [(x,.slice xa x.items.length xc)],It w M p) p hp) b0⟩,b0⟩;have:=Rd.of_owns (M:=M) a1 (fun b hb=>by have:=hM b hb;omega);simpa[Z5,Za,LC]using this
   ·go_wp2
    go_ret;have b0:Below w.heap.size w wr:=b8.trans (hb.mono (by omega));exact⟨_,rfl,⟨a4,by rw[HD.out];simp,Rd.of_owns (M:=M) a3 (fun b hb=>by have:=hM b hb;omega),fun p hp=>Rd.below (HM.out p hp) b0⟩,b0⟩
theorem ZD (n:Nat):((UInt8.ofNat n).toNat:Int)=(n:Int) % 256:=by simp
theorem F3 (w:World)(a b c:UInt8)(x y z:Int)(hx:(a.toNat:Int)=x)(hy:(b.toNat:Int)=y)(hz:(c.toNat:Int)=z):
  (convert 100 9 (.slice (some ⟨w.heap.size,0,none⟩) 3 3)).run Tryz.prog (w.alloc (.cells #[.int .u8 x,.int .u8 y,.int .u8 z] 5))= .ok (.string ⟨[a,b,c].toArray⟩) (w.alloc (.cells #[.int .u8 x,.int .u8 y,.int .u8 z] 5)):=by
 subst hx hy hz;refine run_convert_bytes_back _ 100 9 5 ⟨w.heap.size,0,none⟩ 3 [a,b,c] Tryz.underlying100 Tryz.underlying5 Tryz.underlying9 ?_;intro j hj;exact zE w #[.int .u8 (a.toNat:Int),.int .u8 (b.toNat:Int),.int .u8 (c.toNat:Int)] 5 j _ (by
  match j,hj with
  |0,_=>rfl
  |1,_=>rfl
  |2,_=>rfl)
theorem GH (w:World)(a:UInt8)(x:Int)(hx:(a.toNat:Int)=x):
  (convert 100 9 (.slice (some ⟨w.heap.size,0,none⟩) 1 1)).run Tryz.prog (w.alloc (.cells #[.int .u8 x] 5))= .ok (.string ⟨[a].toArray⟩) (w.alloc (.cells #[.int .u8 x] 5)):=by
 subst hx;refine run_convert_bytes_back _ 100 9 5 ⟨w.heap.size,0,none⟩ 1 [a] Tryz.underlying100 Tryz.underlying5 Tryz.underlying9 ?_;intro j hj;exact zE w #[.int .u8 (a.toNat:Int)] 5 j _ (by
  match j,hj with
  |0,_=>rfl)
theorem OK (c:UInt8)(a0:List UInt8)(w:World)(hl:a0.length≤1000000000):
  Calls Tryz.prog 115 #[.int .u8 (c.toNat:Int),.string ⟨a0.toArray⟩] w fun e w' =>e= .returned (.string ⟨(R.record c a0).toArray⟩)∧Below w.heap.size w w' :=by
 have hc:(c.toNat:Int)<256:=by have:=c.toNat_lt;omega
 have a1:=F3 w c (UInt8.ofNat (a0.length/256)) (UInt8.ofNat (a0.length % 256)) (c.toNat:Int) ((a0.length:Int)/256 % 256) ((a0.length:Int) % 256) rfl (by rw[ZD];omega) (by rw[ZD];omega);generalize a3:w.alloc (.cells #[.int .u8 (c.toNat:Int),.int .u8 ((a0.length:Int)/256 % 256),.int .u8 ((a0.length:Int) % 256)] 5)=w1 at a1;have HB:Below w.heap.size w w1:=by rw[←a3];exact(j0g _ _).alloc (j0a _) _
 have a4:(R.recHead c a0).length≤1000000003:=by simp[R.recHead];omega
 have a6:=R.sumB_le (R.recHead c a0);have HR:Hid (R.record c a0=R.recHead c a0++ [UInt8.ofNat ((1+R.sumB (R.recHead c a0)) % 251)]):=rfl;have HH:Hid (R.recHead c a0=[c,UInt8.ofNat (a0.length/256),UInt8.ofNat (a0.length % 256)]++a0):=rfl;go_enter Tryz.func115,Tryz.ntmps115;go_wp2;rw[Z9,←HH.out];generalize R.recHead c a0=s at*;clear a1;go_loop [6,7] (fun t i=>∃k:Nat,k≤s.length∧i= .int .i64 k∧t= .int .i64 ((1+R.sumB (s.take k):Nat):Int)) (fun _ i=>s.length-(intOf i).toNat)
 case atStart=>exact⟨0,Nat.zero_le _,rfl,rfl⟩
 case round=>
  obtain⟨k,hk,rfl,rfl⟩:=hrel;have a5:=R.sumB_le (s.take k);have a7:(s.take k).length≤s.length:=List.length_take_le' _ _;by_cases a2:k<s.length
  ·have ha:=Zp s k a2 (by simpa[ByteArray.size]using a2)
   have HS:Hid (R.sumB (s.take (k+1))=R.sumB (s.take k)+s[k].toNat):=R.sumB_take s k a2;have h8:s[k].toNat<256:=s[k].toNat_lt;go_wp2;go_round
   case rel=>exact⟨k+1,by omega,by go_num,by rw[HS.out];go_num⟩
   case measure=>simp[intOf];omega
  ·have HT:Hid (s.take k=s):=List.take_of_length_le (by omega)
   rw[HT.out]at*;have a1:=GH w1 (UInt8.ofNat ((1+R.sumB s) % 251)) ((1+(R.sumB s:Int)) % 251) (by rw[ZD];omega);go_wp2;go_ret;exact⟨ym (by rw[HR.out,←Z9]),HB.alloc HB.size _⟩
theorem ZS {w:World}{g:Nat}{L:List (R.Br×Value)}(hc:∀j u,(zv L)[j]? =some u→w.cell? ⟨g,j,none⟩=some u)(i:Nat)(h:i<L.length):
  w.cell? ⟨g,i*3,none⟩=some (.string ⟨(L[i]'h).1.name.toArray⟩)∧w.cell? ⟨g,i*3+1,none⟩=some (.int .i64 ((L[i]'h).1.head:Int))∧w.cell? ⟨g,i*3+2,none⟩=some (L[i]'h).2:=by
 have e:∀j u,j<3→[Value.string ⟨(L[i]'h).1.name.toArray⟩,.int .i64 ((L[i]'h).1.head:Int),(L[i]'h).2][j]? =some u→w.cell? ⟨g,i*3+j,none⟩=some u:=by
  intro j u hj hu;exact hc _ _ (by rw[Qh L i j h hj];exact hu)
 exact⟨e 0 _ (by omega) rfl,e 1 _ (by omega) rfl,e 2 _ (by omega) rfl⟩
theorem yJ (B:Nat)(st:R.St)(s:List UInt8)(w:World)(M O:Nat→Prop)(h:RS w M O B st):
  Calls Tryz.prog 164 #[.pointer (some ⟨B,0,none⟩),.string ⟨s.toArray⟩] w fun e w' =>e= .returned (.int .i64 (R.fndI st.brs s))∧w' =w:=by
 obtain⟨cv,bv,LB,a5,hR⟩:=h;obtain⟨a,cap,rfl,hn,hm,a3,a4⟩:=za hR.row;have c1:=hR.c1;have HB:Hid (LB.map (·.1)=st.brs):=hR.brs;clear hR;rw[←HB.out];unfold maxLen at hm;go_enter Tryz.func164,Tryz.ntmps164;go_wp2;go_loop [5] (fun i=>∃k:Nat,k≤LB.length∧i= .int .i64 k∧(((LB.map (·.1)).take k).any fun x=>x.name==s)=false) (fun i=>LB.length-(intOf i).toNat)
 case atStart=>exact⟨0,Nat.zero_le _,rfl,rfl⟩
 case round=>
  obtain⟨k,hk,rfl,a2⟩:=hrel;have HA:Hid ((((LB.map (·.1)).take k).any fun x=>x.name==s)=false):=a2;clear a2;by_cases a1:k<LB.length
  ·cases a with
   |none=>have:=(a3 rfl).1;omega
   |some ad=>
    obtain⟨g,rfl,_,hg,_,a0⟩:=a4 ad rfl;obtain⟨d0, -, -⟩:=ZS a0 k a1;have HP:Hid ((LB.map (·.1))[k]'(by simpa using a1)=(LB[k]'a1).1):=by show _=_;simp
    generalize(LB[k]'a1).1=y at HP d0;clear a0 a4 a3;go_wp2
    ·have hp:(y.name==s)=true:=by assumption
     go_ret;exact⟨zq (R.fnd_hit _ _ k (by simpa using a1) HA.out (by rw[HP.out];exact hp)),rfl⟩
    ·have hp:(y.name==s)=false:=by assumption
     go_round
     case rel=>exact⟨k+1,by omega,by go_num,R.any_snoc _ _ k (by simpa using a1) HA.out (by rw[HP.out];exact hp)⟩
     case measure=>simp[intOf];omega
  ·go_wp2
   go_ret;exact⟨zq (R.fnd_none _ _ k (by simpa using a1) HA.out),rfl⟩
theorem GZ (B:Nat)(w:World):
  Calls Tryz.prog 176 #[.pointer (some ⟨B,0,none⟩),.int .i64 0] w fun e w' =>e= .returned (.slice none 0 0)∧w' =w:=by
 go_enter Tryz.func176,Tryz.ntmps176;go_wp2;go_ret;exact⟨rfl,rfl⟩
theorem f7 (B:Nat)(c:UInt8)(packed a0:List UInt8)(w:World)(hB:B<w.heap.size)(h2:w.cell? ⟨B,2,none⟩=some (.string ⟨packed.toArray⟩))(hf:∀o,w.frozen? ⟨B,o,none⟩=false)(hp:packed.length≤1000000000000000)(hb:a0.length≤1000000):
  Calls Tryz.prog 166 #[.pointer (some ⟨B,0,none⟩),.int .u8 (c.toNat:Int),.string ⟨a0.toArray⟩] w fun e w' =>
   e= .returned (.tuple #[])∧∃w1,Below w.heap.size w w1∧w' =w1.setCell ⟨B,2,none⟩ (.string ⟨(packed++R.record c a0).toArray⟩):=by
 have a5:(R.record c a0).length≤1000010:=by simp[R.record,R.recHead];omega
 have a2:=hf 2;go_enter Tryz.func166,Tryz.ntmps166;go_wp2;go_region_with ((go_at_call 115;refine(OK c a0 _ (by omega)).mono ?_;rintro e w' ⟨rfl,a1⟩;have a3:w'.cell? ⟨B,2,none⟩=some (.string ⟨packed.toArray⟩):=(a1.cell (p:=⟨B,2,none⟩) hB).trans h2;have a4:w'.frozen? ⟨B,2,none⟩=false:=(a1.frozen (p:=⟨B,2,none⟩) hB).trans a2))
 all_goals(go_end0;rw[Z9];exact⟨rfl,w',⟨a1.os,a1.tape,a1.output,a1.size,a1.block⟩,rfl⟩)
