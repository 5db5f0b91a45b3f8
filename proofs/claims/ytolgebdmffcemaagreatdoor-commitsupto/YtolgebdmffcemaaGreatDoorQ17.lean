import Derived.Test.YtolgebdmffcemaaGreatDoorQ16
set_option linter.all false
set_option maxHeartbeats 20000000
set_option maxRecDepth 1000000
namespace Go.Proofs.YtolgebdmffcemaaGreatDoor
open Go.RowKit
theorem zd {p:Prop}(h:p):Hid p:=h
theorem w64 (n:Int)(h1: -9223372036854775808≤n)(h2:n≤9223372036854775807):wrap64 n=n:=by unfold wrap64;omega
theorem oL (u:Nat)(l:List UInt8)(w:World)(h:u≤1000000000)(a8:Calls Tryz.prog 244 #[.int .i64 (u:Int)] w fun e w' =>e= .returned (.string ⟨l.toArray⟩)∧w' =w)(h1:∀c∈l.drop 0,48≤c.toNat∧c.toNat≤57)(h2:YZ (l.drop 0)=u)(hl:l.length≤11)(b6:0<l.length)(a2:(l.drop 0).length≤10)(h0:l[0].toNat≠45):
  Calls Tryz.prog 243 #[.string ⟨l.toArray⟩] w fun e w' =>e= .returned (.tuple #[.int .i64 (u:Int),.bool true])∧w' =w:=by
 have hv:=fun k=>Kk (l.drop 0) (fun c hc=>(h1 c hc).2) k a2
 have e0:(((({data:=l.toArray}:ByteArray)[0]'(by simp[ByteArray.size];omega)).toNat:Int)==45)=false:=by
  rw[Zp l 0 (by omega)];simp;omega
 have b0:(0:Int)<(l.length:Int):=by omega
 have a9:=zd a8;have H1:=zd h1;have H2:Hid (YZ (l.drop 0)=u):=h2;have H0:=zd h0;have HV:=zd hv;clear a8 h1 h2 h0 hv a2;go_enter Tryz.func243,Tryz.ntmps243;go_wp2;go_loop [4,6] (fun a i=>∃k:Nat,0≤k∧k≤l.length∧i= .int .i64 k∧a= .int .i64 (YZ ((l.drop 0).take (k-0)):Nat)) (fun _ i=>l.length-(intOf i).toNat)
 case atStart=>exact⟨0,j0a _,by omega,rfl,rfl⟩
 case round=>
  obtain⟨k,b7,hk,rfl,rfl⟩:=hrel;by_cases a0:k<l.length
  ·have a6:k-0<(l.drop 0).length:=by simp;omega
   have a5:=H1.out _ (j0c a6);have a4:=ju _ _ a6;have b3:=HV.out (k+1-0);have e1:k-0+1=k+1-0:=by omega
   have e2:(l.drop 0)[k-0]'a6=l[k]'a0:=by rw[List.getElem_drop];congr 1;omega
   rw[e1]at a4;rw[e2]at a4 a5;generalize a7:l[k]'a0=ck at*;have a3:((({data:=l.toArray}:ByteArray)[k]'(by simpa[ByteArray.size]using a0)).toNat:Int)=(ck.toNat:Int):=by rw[Zp _ k a0,a7]
   have b1:¬(((({data:=l.toArray}:ByteArray)[k]'(by simpa[ByteArray.size]using a0)).toNat:Int)<48):=by rw[a3];omega
   have b2:¬((57:Int)<((({data:=l.toArray}:ByteArray)[k]'(by simpa[ByteArray.size]using a0)).toNat:Int)):=by rw[a3];omega
   have b8:(k:Int)<15:=by omega
   have HB:Hid (((({data:=l.toArray}:ByteArray)[k]'(by simpa[ByteArray.size]using a0)).toNat:Int)=(ck.toNat:Int)):=a3;have HD:Hid (YZ ((l.drop 0).take (k+1-0))=10*YZ ((l.drop 0).take (k-0))+(ck.toNat-48)):=a4;clear a3 a4 a7 e1 e2;generalize hA:YZ ((l.drop 0).take (k-0))=acc at*;go_wp2;go_round
   case rel=>
    refine⟨k+1,by omega,by omega,by go_num,?_⟩;rw[HD.out,HB.out];rw[HD.out]at b3;have b4:=a5.1;have b5:=a5.2;generalize ck.toNat=cn at*;have w1:wrap64 (10*(acc:Int))=10*(acc:Int):=w64 _ (by omega) (by omega);have w2:wrap64 (10*(acc:Int)+((cn:Int)-48))=10*(acc:Int)+((cn:Int)-48):=w64 _ (by omega) (by omega);rw[w1,w2];congr 1
    omega
   case measure=>simp[intOf];omega
  ·obtain rfl:k=l.length:=by omega
   have a1:YZ ((l.drop 0).take (l.length-0))=u:=by rw[List.take_of_length_le (by simp)];exact H2.out
   rw[a1];have i1:(u:Int)≤1000000000:=by omega
   have i2:(-1000000000:Int)≤(u:Int):=by omega
   have i3:(u:Int)≤(1000000000:Int):=by omega
   go_wp2_with fail
   refine a9.out.mono ?_;rintro e w1 ⟨rfl,rfl⟩;go_wp2;go_ret2;exact⟨rfl,rfl⟩
theorem oJ (u:Nat)(l:List UInt8)(w:World)(h:u≤1000000000)(a8:Calls Tryz.prog 244 #[.int .i64 (-(u:Int))] w fun e w' =>e= .returned (.string ⟨l.toArray⟩)∧w' =w)(h1:∀c∈l.drop 1,48≤c.toNat∧c.toNat≤57)(h2:YZ (l.drop 1)=u)(hl:l.length≤11)(b6:1<l.length)(a2:(l.drop 1).length≤10)(h0:l[0].toNat=45):
  Calls Tryz.prog 243 #[.string ⟨l.toArray⟩] w fun e w' =>e= .returned (.tuple #[.int .i64 (-(u:Int)),.bool true])∧w' =w:=by
 have hv:=fun k=>Kk (l.drop 1) (fun c hc=>(h1 c hc).2) k a2
 have e0:(((({data:=l.toArray}:ByteArray)[0]'(by simp[ByteArray.size];omega)).toNat:Int)==45)=true:=by
  rw[Zp l 0 (by omega)];simp;omega
 have b0:(0:Int)<(l.length:Int):=by omega
 have a9:=zd a8;have H1:=zd h1;have H2:Hid (YZ (l.drop 1)=u):=h2;have H0:=zd h0;have HV:=zd hv;clear a8 h1 h2 h0 hv a2;go_enter Tryz.func243,Tryz.ntmps243;go_wp2;go_loop [4,6] (fun a i=>∃k:Nat,1≤k∧k≤l.length∧i= .int .i64 k∧a= .int .i64 (YZ ((l.drop 1).take (k-1)):Nat)) (fun _ i=>l.length-(intOf i).toNat)
 case atStart=>exact⟨1,j0a _,by omega,rfl,rfl⟩
 case round=>
  obtain⟨k,b7,hk,rfl,rfl⟩:=hrel;by_cases a0:k<l.length
  ·have a6:k-1<(l.drop 1).length:=by simp;omega
   have a5:=H1.out _ (j0c a6);have a4:=ju _ _ a6;have b3:=HV.out (k+1-1);have e1:k-1+1=k+1-1:=by omega
   have e2:(l.drop 1)[k-1]'a6=l[k]'a0:=by rw[List.getElem_drop];congr 1;omega
   rw[e1]at a4;rw[e2]at a4 a5;generalize a7:l[k]'a0=ck at*;have a3:((({data:=l.toArray}:ByteArray)[k]'(by simpa[ByteArray.size]using a0)).toNat:Int)=(ck.toNat:Int):=by rw[Zp _ k a0,a7]
   have b1:¬(((({data:=l.toArray}:ByteArray)[k]'(by simpa[ByteArray.size]using a0)).toNat:Int)<48):=by rw[a3];omega
   have b2:¬((57:Int)<((({data:=l.toArray}:ByteArray)[k]'(by simpa[ByteArray.size]using a0)).toNat:Int)):=by rw[a3];omega
   have b8:(k:Int)<15:=by omega
   have HB:Hid (((({data:=l.toArray}:ByteArray)[k]'(by simpa[ByteArray.size]using a0)).toNat:Int)=(ck.toNat:Int)):=a3;have HD:Hid (YZ ((l.drop 1).take (k+1-1))=10*YZ ((l.drop 1).take (k-1))+(ck.toNat-48)):=a4;clear a3 a4 a7 e1 e2;generalize hA:YZ ((l.drop 1).take (k-1))=acc at*;go_wp2;go_round
   case rel=>
    refine⟨k+1,by omega,by omega,by go_num,?_⟩;rw[HD.out,HB.out];rw[HD.out]at b3;have b4:=a5.1;have b5:=a5.2;generalize ck.toNat=cn at*;have w1:wrap64 (10*(acc:Int))=10*(acc:Int):=w64 _ (by omega) (by omega);have w2:wrap64 (10*(acc:Int)+((cn:Int)-48))=10*(acc:Int)+((cn:Int)-48):=w64 _ (by omega) (by omega);rw[w1,w2];congr 1
    omega
   case measure=>simp[intOf];omega
  ·obtain rfl:k=l.length:=by omega
   have a1:YZ ((l.drop 1).take (l.length-1))=u:=by rw[List.take_of_length_le (by simp)];exact H2.out
   rw[a1];have i1:(u:Int)≤1000000000:=by omega
   have i2:(-1000000000:Int)≤(-(u:Int)):=by omega
   have i3:(-(u:Int))≤(1000000000:Int):=by omega
   go_wp2_with fail
   refine a9.out.mono ?_;rintro e w1 ⟨rfl,rfl⟩;go_wp2;go_ret2;exact⟨rfl,rfl⟩
theorem OH (n:Int)(w:World)(h:n≤1000000000)(h' : -1000000000≤n):
  Calls Tryz.prog 243 #[.string ⟨(Lib.itoa n).toArray⟩] w fun e w' =>e= .returned (.tuple #[.int .i64 n,.bool true])∧w' =w:=by
 by_cases hn:n<0
 ·obtain⟨u,rfl⟩:∃u:Nat,n= -(u:Int):=⟨n.natAbs,by omega⟩
  have a0:=kT (-(u:Int)) w (by omega) (by omega);rw[Lib.itoa_neg u (by omega)]at a0⊢;obtain⟨h1,h2,h3⟩:=o9 u;have hl:=Ja 9 u (by omega);have h4:=List.length_pos_iff.2 h3;exact oJ u _ w (by omega) a0 (by simpa using h1) (by simpa using h2) (by simp;omega) (by simp;omega) (by simp;omega) rfl
 ·obtain⟨u,rfl⟩:∃u:Nat,n=(u:Int):=⟨n.toNat,by omega⟩
  have a0:=kT (u:Int) w (by omega) (by omega);rw[Lib.itoa_nonneg]at a0⊢;obtain⟨h1,h2,h3⟩:=o9 u;have hl:=Ja 9 u (by omega);have h4:=List.length_pos_iff.2 h3;exact oL u _ w (by omega) a0 (by simpa using h1) (by simpa using h2) (by omega) (by omega) (by simp;omega) (by have:=h1 _ (j0c h4);omega)
theorem ur (c:UInt8)(l:List UInt8):(ByteArray.mk (c::l).toArray).extract 1 (l.length+1)=⟨l.toArray⟩:=by
 apply ByteArray.ext;simp
theorem oI (path:List UInt8)(n:Int)(w:World)(h1:n≤1000000000)(h2: -1000000000≤n):
  Calls Tryz.prog 213 #[.string ⟨path.toArray⟩,.string ⟨(35::Lib.itoa n).toArray⟩] w fun e w' =>e= .returned (.tuple #[.agg #[.string ⟨path.toArray⟩,.int .u8 35,.int .i64 n,.string ⟨#[]⟩,.slice none 0 0],.bool true])∧Below w.heap.size w w' :=by
 have a0:=fun W=>OH n W h1 h2
 have hx:=ur 35 (Lib.itoa n);have a1:=Lib.itoa_length_le n (by omega) (by omega);generalize Lib.itoa n=l at*;have e0:(((({data:=(35::l).toArray}:ByteArray)[0]'(by simp[ByteArray.size])).toNat:Int)==35)=true:=by rw[Zp _ 0 (by simp)];rfl
 have HX:=zd hx;have HE:Hid ((({data:=(35::l).toArray}:ByteArray)[0]'(by simp[ByteArray.size])).toNat=35):=by show _=_;rw[Zp _ 0 (by simp)];rfl
 have HN:=zd a0;clear hx a0;go_enter Tryz.func213,Tryz.ntmps213;go_wp2_with fail
 rw[HX.out];refine(HN.out _).mono ?_;rintro e w1 ⟨rfl,rfl⟩;go_wp2;refine bodyPost_ret (v:= .tuple #[.agg #[.string ⟨path.toArray⟩,.int .u8 35,.int .i64 n,.string ⟨#[]⟩,.slice none 0 0],.bool true]) (by simp[results,Tryz.results213,go_sem,HE.out]) rfl ⟨rfl,?_⟩;exact(((j0g _ _).alloc (j0a _) _).alloc (by simp) _)
theorem oG (path l:List UInt8)(w:World)(h1:R.isText l=true)(h2:l.length≤20):
  Calls Tryz.prog 213 #[.string ⟨path.toArray⟩,.string ⟨(61::l).toArray⟩] w fun e w' =>e= .returned (.tuple #[.agg #[.string ⟨path.toArray⟩,.int .u8 61,.int .i64 0,.string ⟨l.toArray⟩,.slice none 0 0],.bool true])∧Below w.heap.size w w' :=by
 have hx:=ur 61 l;have ht:=fun W=>Xd ⟨l.toArray⟩ W (by simp[ByteArray.size];unfold maxLen;omega)
 simp only[h1]at ht;have e0:(((({data:=(61::l).toArray}:ByteArray)[0]'(by simp[ByteArray.size])).toNat:Int)==35)=false:=by rw[Zp _ 0 (by simp)];rfl
 have e1:(((({data:=(61::l).toArray}:ByteArray)[0]'(by simp[ByteArray.size])).toNat:Int)==61)=true:=by rw[Zp _ 0 (by simp)];rfl
 have HX:=zd hx;have HE:Hid ((({data:=(61::l).toArray}:ByteArray)[0]'(by simp[ByteArray.size])).toNat=61):=by show _=_;rw[Zp _ 0 (by simp)];rfl
 have HT:=zd ht;clear hx ht h1;go_enter Tryz.func213,Tryz.ntmps213;go_wp2_with fail
 rw[HX.out];refine(HT.out _).mono ?_;rintro e w1 ⟨rfl,rfl⟩;go_wp2;refine bodyPost_ret (v:= .tuple #[.agg #[.string ⟨path.toArray⟩,.int .u8 61,.int .i64 0,.string ⟨l.toArray⟩,.slice none 0 0],.bool true]) (by simp[results,Tryz.results213,go_sem,HE.out,HX.out]) rfl ⟨rfl,?_⟩;exact(((j0g _ _).alloc (j0a _) _).alloc (by simp) _)
theorem XB (l:List (List UInt8))(m:Nat)(h:m<l.length):R.joinI (l.drop m)=l[m]++(if m+1=l.length then []else 59::R.joinI (l.drop (m+1))):=by
 rw[List.drop_eq_getElem_cons h];by_cases e:m+1=l.length
 ·rw[if_pos e,List.drop_of_length_le (by omega),R.joinI,List.append_nil]
 ·rw[if_neg e,List.drop_eq_getElem_cons (by omega:m+1<l.length),R.joinI]
theorem GQ (l:List UInt8)(h:R.isText l=true):∀c∈l,c≠59:=by
 simp only[R.isText,Bool.and_eq_true,List.all_eq_true]at h;intro c hc e;have:=h.2 c hc;rw[e]at this;exact absurd this (by decide)
structure Bag (s:List UInt8)(l:List (List UInt8))(k q m:Nat):Prop where
 lt:m<l.length
 q1:1≤q
 le:q≤k
 ge:k≤q+(l[m]'lt).length
 at_:s.drop q=R.joinI (l.drop m)
section
variable {s:List UInt8}{l:List (List UInt8)}{k q m:Nat}
theorem Bag.len (h:Bag s l k q m)(hq:q≤s.length):s.length=q+(l[m]'h.lt).length+(if m+1=l.length then 0 else 1+(R.joinI (l.drop (m+1))).length):=by
 have h1:=congrArg List.length h.at_;rw[XB l m h.lt,List.length_drop,List.length_append]at h1;split at h1<;>rename_i e
 ·rw[if_pos e];simp at h1;omega
 ·rw[if_neg e];simp at h1;omega
theorem Bag.qle (h:Bag s l k q m)(a0:∀x∈l,x≠ []):q≤s.length:=by
 rcases Nat.lt_or_ge s.length q with h1|h1
 ·have h2:=h.at_
  rw[List.drop_of_length_le (by omega),XB l m h.lt]at h2;have h3:=a0 _ (j0c h.lt)
  cases e:l[m]'h.lt with
  |nil=>exact absurd e h3
  |cons a r=>rw[e]at h2;simp at h2
 ·exact h1
theorem Bag.inside (h:Bag s l k q m)(hk:k<q+(l[m]'h.lt).length)(ht:∀x∈l,R.isText x=true)(a0:k<s.length):s[k]≠59:=by
 have h1:(s.drop q)[k-q]? =some s[k]:=by rw[List.getElem?_drop,show q+(k-q)=k by have:=h.le;omega,j0d a0]
 rw[h.at_,XB l m h.lt,List.getElem?_append_left (by have:=h.le;omega)]at h1;exact GQ _ (ht _ (j0c h.lt)) _ (List.mem_of_getElem? h1)
theorem Bag.cut (h:Bag s l k q m)(hk:k=q+(l[m]'h.lt).length):(s.drop q).take (k-q)=l[m]'h.lt:=by
 rw[h.at_,XB l m h.lt,List.take_append_of_le_length (by omega),List.take_of_length_le (by omega)]
theorem Bag.sep (h:Bag s l k q m)(hk:k=q+(l[m]'h.lt).length)(hm:m+1≠l.length)(a0:k<s.length):s[k]=59∧s.drop (k+1)=R.joinI (l.drop (m+1)):=by
 have h0:=h.at_;rw[XB l m h.lt,if_neg hm]at h0;constructor
 ·have h1:(s.drop q)[k-q]? =some s[k]:=by rw[List.getElem?_drop,show q+(k-q)=k by have:=h.le;omega,j0d a0]
  rw[h0,List.getElem?_append_right (by omega),show k-q-(l[m]'h.lt).length=0 by omega]at h1;simpa using h1.symm
 ·have h2:s.drop (k+1)=(s.drop q).drop ((l[m]'h.lt).length+1):=by rw[List.drop_drop];congr 1;omega
  rw[h2,h0,List.drop_append,List.drop_of_length_le (by omega)];simp
end
theorem Fa (w:World)(B:Nat)(u0 u1 u2 u3 u4 v0 v1 v2 v3 v4:Value)(h0:w.cell? ⟨B,0,none⟩=some u0)(h1:w.cell? ⟨B,1,none⟩=some u1)(h2:w.cell? ⟨B,2,none⟩=some u2)(h3:w.cell? ⟨B,3,none⟩=some u3)(h4:w.cell? ⟨B,4,none⟩=some u4):
  ((((((w.setCell ⟨B,0,none⟩ v0).setCell ⟨B,1,none⟩ v1).setCell ⟨B,2,none⟩ v2).setCell ⟨B,3,none⟩ v3).setCell ⟨B,4,none⟩ v4).drew).cell? ⟨B,0,none⟩=some v0∧((((((w.setCell ⟨B,0,none⟩ v0).setCell ⟨B,1,none⟩ v1).setCell ⟨B,2,none⟩ v2).setCell ⟨B,3,none⟩ v3).setCell ⟨B,4,none⟩ v4).drew).cell? ⟨B,1,none⟩=some v1∧((((((w.setCell ⟨B,0,none⟩ v0).setCell ⟨B,1,none⟩ v1).setCell ⟨B,2,none⟩ v2).setCell ⟨B,3,none⟩ v3).setCell ⟨B,4,none⟩ v4).drew).cell? ⟨B,2,none⟩=some v2∧
  ((((((w.setCell ⟨B,0,none⟩ v0).setCell ⟨B,1,none⟩ v1).setCell ⟨B,2,none⟩ v2).setCell ⟨B,3,none⟩ v3).setCell ⟨B,4,none⟩ v4).drew).cell? ⟨B,3,none⟩=some v3∧((((((w.setCell ⟨B,0,none⟩ v0).setCell ⟨B,1,none⟩ v1).setCell ⟨B,2,none⟩ v2).setCell ⟨B,3,none⟩ v3).setCell ⟨B,4,none⟩ v4).drew).cell? ⟨B,4,none⟩=some v4:=by
 have d:∀(W:World) (a:Addr),W.drew.cell? a=W.cell? a:=fun _ _=>rfl
 refine⟨?_,?_,?_,?_,?_⟩
 ·rw[d,z9 _ _ _ _ _ (by omega),z9 _ _ _ _ _ (by omega),z9 _ _ _ _ _ (by omega),z9 _ _ _ _ _ (by omega)];exact zD _ _ _ _ _ h0
 ·rw[d,z9 _ _ _ _ _ (by omega),z9 _ _ _ _ _ (by omega),z9 _ _ _ _ _ (by omega)]
  exact zD _ _ _ _ u1 (by rw[z9 _ _ _ _ _ (by omega)];exact h1)
 ·rw[d,z9 _ _ _ _ _ (by omega),z9 _ _ _ _ _ (by omega)]
  exact zD _ _ _ _ u2 (by rw[z9 _ _ _ _ _ (by omega),z9 _ _ _ _ _ (by omega)];exact h2)
 ·rw[d,z9 _ _ _ _ _ (by omega)]
  exact zD _ _ _ _ u3 (by rw[z9 _ _ _ _ _ (by omega),z9 _ _ _ _ _ (by omega),z9 _ _ _ _ _ (by omega)];exact h3)
 ·rw[d]
  exact zD _ _ _ _ u4 (by rw[z9 _ _ _ _ _ (by omega),z9 _ _ _ _ _ (by omega),z9 _ _ _ _ _ (by omega),z9 _ _ _ _ _ (by omega)];exact h4)
theorem oH (path:List UInt8)(l:List (List UInt8))(w:World)(b9:l≠ [])(i5:l.length≤8)(ht:∀i∈l,R.isText i=true∧i≠ [])(c8:Zh l):
  Calls Tryz.prog 213 #[.string ⟨path.toArray⟩,.string ⟨(42::R.joinI l).toArray⟩] w fun e w' =>∃iv,e= .returned (.tuple #[.agg #[.string ⟨path.toArray⟩,.int .u8 42,.int .i64 0,.string ⟨#[]⟩,iv],.bool true])∧w'.ownsRow (w.heap.size+2) 9 1 iv l.length (l.map S)∧Below w.heap.size w w' :=by
 obtain⟨s,hs⟩:∃s,s=42::R.joinI l:=⟨_,rfl⟩
 have i9:s.length≤10000:=by
  have:=R.joinI_length l (fun i hi=>by have:=Zz _ (ht i hi).1;omega);rw[hs];simp only[List.length_cons];omega
 have f9:Bag s l 1 1 0:=⟨List.length_pos_iff.2 b9,j0a _,j0a _,by omega,by rw[hs];simp⟩
 have b7:0<s.length:=by rw[hs];simp
 have b6:s[0]=42:=by simp[hs]
 rw[←hs];clear hs;have e0:(((({data:=s.toArray}:ByteArray)[0]'(by simpa[ByteArray.size]using b7)).toNat:Int)==35)=false:=by rw[Zp _ 0 b7,b6];rfl
 have e1:(((({data:=s.toArray}:ByteArray)[0]'(by simpa[ByteArray.size]using b7)).toNat:Int)==61)=false:=by rw[Zp _ 0 b7,b6];rfl
 have e2:(((({data:=s.toArray}:ByteArray)[0]'(by simpa[ByteArray.size]using b7)).toNat:Int)==42)=true:=by rw[Zp _ 0 b7,b6];rfl
 have HE:Hid ((({data:=s.toArray}:ByteArray)[0]'(by simpa[ByteArray.size]using b7)).toNat=42):=by show _=_;rw[Zp _ 0 b7,b6];rfl
 have i8:s.isEmpty=false:=by cases s with|nil=>simp at b7|cons=>rfl
 clear b6;have g4:=zd f9;have HT:=zd ht;have HS:=zd c8;clear f9 ht c8;go_enter Tryz.func213,Tryz.ntmps213;go_wp2;generalize hY:((w.alloc (.cells #[.string ⟨#[]⟩,.int .u8 0,.int .i64 0,.string ⟨#[]⟩,.slice none 0 0] 216)).alloc (.cells #[.string ⟨path.toArray⟩,.int .u8 ((({data:=s.toArray}:ByteArray)[0]'(by simpa[ByteArray.size]using b7)).toNat:Int),.int .i64 0,.string ⟨#[]⟩,.slice none 0 0] 216))=wY;rw[HE.out]at hY;have g3:wY.heap.size=w.heap.size+1+1:=by rw[←hY];simp
 have g9:Below w.heap.size w wY:=by rw[←hY];exact(((j0g _ _).alloc (j0a _) _).alloc (by simp) _)
 have yc:∀o u,#[Value.string ⟨path.toArray⟩,.int .u8 42,.int .i64 0,.string ⟨#[]⟩,.slice none 0 0][o]? =some u→wY.cell? ⟨w.heap.size+1,o,none⟩=some u:=fun o u hu=>by
  rw[←hY,World.cell?_alloc_at _ _ _ _ (by simp)];exact hu
 have zc:∀o u,#[Value.string ⟨#[]⟩,.int .u8 0,.int .i64 0,.string ⟨#[]⟩,.slice none 0 0][o]? =some u→wY.cell? ⟨w.heap.size,o,none⟩=some u:=fun o u hu=>by
  rw[←hY,World.cell?_alloc_past _ _ _ (by simp),World.cell?_alloc_at _ _ _ _ rfl];exact hu
 have yf:∀o,wY.frozen? ⟨w.heap.size+1,o,none⟩=false:=fun o=>by rw[←hY,World.frozen?_alloc_at _ _ _ _ (by simp)]
 have zf:∀o,wY.frozen? ⟨w.heap.size,o,none⟩=false:=fun o=>by rw[←hY,World.frozen?_alloc_past _ _ _ (by simp),World.frozen?_alloc_at _ _ _ _ rfl]
 have d9:=zd yc;have e4:=zd zc;have g6:=zd yf;have g7:=zd zf;clear yc zc yf zf hY e0 e1 e2 HE;go_loopw [10,11] (fun f i wr=>∃(k q m:Nat) (v:Value),i= .int .i64 k∧f= .int .i64 q∧m≤l.length∧wr.cell? ⟨w.heap.size+1,4,none⟩=some v∧wr.ownsRow (w.heap.size+2) 9 1 v m ((l.take m).map S)∧
   wr.cell? ⟨w.heap.size+1,1,none⟩=some (.int .u8 42)∧wr.cell? ⟨w.heap.size+1,0,none⟩=some (.string ⟨path.toArray⟩)∧wr.cell? ⟨w.heap.size+1,2,none⟩=some (.int .i64 0)∧wr.cell? ⟨w.heap.size+1,3,none⟩=some (.string ⟨#[]⟩)∧
   (∀o,wr.frozen? ⟨w.heap.size+1,o,none⟩=false)∧Below (w.heap.size+1) wY wr∧(Bag s l k q m∨(m=l.length∧k=s.length+1))) (fun _ i _=>s.length+1-(intOf i).toNat)
 case atStart=>exact⟨1,1,0,.slice none 0 0,rfl,rfl,Nat.zero_le _,d9.out 4 _ rfl,World.ownsRow_nil _ _ _ _,d9.out 1 _ rfl,d9.out 0 _ rfl,d9.out 2 _ rfl,d9.out 3 _ rfl,g6.out,j0g _ _,.inl g4.out⟩
 case round=>
  obtain⟨k,q,m,v,rfl,rfl,h3,q4,qo,q1,q0,q2,q3,qf,qb,h4⟩:=hrel;have i7:=qb.size;obtain⟨va,vc,rfl,h8,f7,b4,a6⟩:=za qo;clear f7;rcases h4 with a7|⟨h2,h0⟩
  ·have hm:=a7.lt
   have h5:=a7.q1;have i6:=a7.le;have f5:=a7.qle (fun x hx=>(HT.out x hx).2);have d4:s.length=q+(l[m]'hm).length+(if m+1=l.length then 0 else 1+(R.joinI (l.drop (m+1))).length):=a7.len f5;have e9:k≤q+(l[m]'hm).length:=a7.ge;have i1:k≤s.length:=by split at d4<;>omega
   have d7:=zd a7;have c9:=zd a6;have b8:=zd d4;clear a7 a6 d4;by_cases e6:k<q+(l[m]'hm).length
   ·have a4:k<s.length:=by have:=b8.out;split at this<;>omega
    have c6:=d7.out.inside e6 (fun x hx=>(HT.out x hx).1) a4;have b1:((k:Int)==(s.length:Int))=false:=by simp;omega
    have b2:(((({data:=s.toArray}:ByteArray)[k]'(by simpa[ByteArray.size]using a4)).toNat:Int)==59)=false:=by
     rw[Zp s k a4];simp;intro h;exact c6 (UInt8.toNat_inj.1 (by simpa using Int.ofNat.inj h))
    clear c6;go_wp2;go_roundw
    case rel=>exact⟨k+1,q,m,_,by go_num,rfl,h3,q4,qo,q1,q0,q2,q3,qf,qb,.inl ⟨hm,h5,by omega,by omega,d7.out.at_⟩⟩
    case measure=>simp[intOf];omega
   ·have d3:k=q+(l[m]'hm).length:=by omega
    have hX:({data:=s.toArray}:ByteArray).extract q k=⟨(l[m]'hm).toArray⟩:=by
     have h1:=Yl s q k;rw[d7.out.cut d3]at h1;simpa[S]using h1
    have hy:=HT.out _ (j0c hm);have j1:=Zz _ hy.1;have j0:(l[m]'hm).isEmpty=false:=by
     cases e:l[m]'hm with
     |nil=>exact absurd e hy.2
     |cons=>rfl
    have f4:=fun W=>Xd ⟨(l[m]'hm).toArray⟩ W (by simp[ByteArray.size];unfold maxLen;omega)
    simp only[hy.1]at f4;have HX:=zd hX;have f8:=zd f4;clear hX f4 hy;generalize e8:l[m]'hm=y at*;have e3:=zd e8;by_cases a5:m+1=l.length
    all_goals
     first
      |(have f0:k=s.length:=by have:=b8.out;rw[if_pos a5]at this;omega)
      |skip
     by_cases g2:m=0
     ·skip
      have d8:=zd d3;have a0:=zd a5;first
       |(have f3:=zd f0
         have b1:((k:Int)==(s.length:Int))=true:=by simp;omega)
       |(have a4:k<s.length:=by have:=b8.out;rw[if_neg a0.out]at this;have:=d8.out;omega
         obtain⟨c6,a8⟩:=d7.out.sep (by rw[e3.out];exact d8.out) a0.out a4;have b1:((k:Int)==(s.length:Int))=false:=by simp;omega
         have b2:(((({data:=s.toArray}:ByteArray)[k]'(by simpa[ByteArray.size]using a4)).toNat:Int)==59)=true:=by
          rw[Zp s k a4,c6];rfl
         have b5:=zd a8;clear c6 a8)
      obtain rfl:m=0:=by omega
      first
       |(clear d3 a5 e9 e6 b4 e8 f0)
       |(clear d3 a5 e9 e6 b4 e8)
      try clear g2
      go_wp2_with fail
      rw[HX.out];refine(f8.out _).mono ?_;rintro e w1 ⟨rfl,rfl⟩;have g8:w.heap.size+1+1≤w1.heap.size:=by have:=g3;omega
      go_wp2_with (at_builtin;go_loud (refine Zi w1 rfl _ _ 45 rfl (w.heap.size+2) 9 (.string ⟨#[]⟩) 1 16 Tryz.underlying45 Tryz.info9 rfl (by decide) qo _ rfl (by rfl) (by rfl) (by intro u hu;simp at hu;subst hu;rfl) (by unfold maxLen;omega) (by omega) (by omega) ?_))
      intro v2 w2 d5 c7;have b9:(Value.slice va 0 vc).ownBlock≠some (w.heap.size+1):=fun e=>by have:=(qo.lt _ e).1;omega
      have b3:w2.heap[w.heap.size+1]? =w1.heap[w.heap.size+1]? :=c7.block _ (by omega) (fun e=>b9 e.symm);have cl:∀o,w2.cell? ⟨w.heap.size+1,o,none⟩=w1.cell? ⟨w.heap.size+1,o,none⟩:=fun o=>World.cell?_of_block (a:=⟨w.heap.size+1,o,none⟩) b3
      have fl:∀o,w2.frozen? ⟨w.heap.size+1,o,none⟩=w1.frozen? ⟨w.heap.size+1,o,none⟩:=fun o=>World.frozen?_of_block (a:=⟨w.heap.size+1,o,none⟩) b3
      have r4:=(cl 4).trans q4;have h9:=(fl 4).trans (qf 4);obtain⟨a9,b0,f6,_⟩:=za d5;subst f6;have a6:(l.take (0+1)).map S=(l.take 0).map S++ [.string ⟨y.toArray⟩]:=by rw[List.take_succ_eq_append_getElem hm,List.map_append,e3.out];rfl
      have d6:w2.ownsRow (w.heap.size+2) 9 1 (.slice a9 (0+1) b0) (0+1) ((l.take (0+1)).map S):=by rw[a6];simpa using d5
      have HR:Hid ((w2.setCell ⟨w.heap.size+1,4,none⟩ (.slice a9 (0+1) b0)).cell? ⟨w.heap.size+1,4,none⟩=some (.slice a9 (0+1) b0)∧(w2.setCell ⟨w.heap.size+1,4,none⟩ (.slice a9 (0+1) b0)).ownsRow (w.heap.size+2) 9 1 (.slice a9 (0+1) b0) (0+1) ((l.take (0+1)).map S)∧
        (∀o,o≠4→(w2.setCell ⟨w.heap.size+1,4,none⟩ (.slice a9 (0+1) b0)).cell? ⟨w.heap.size+1,o,none⟩=w1.cell? ⟨w.heap.size+1,o,none⟩)∧(∀o,(w2.setCell ⟨w.heap.size+1,4,none⟩ (.slice a9 (0+1) b0)).frozen? ⟨w.heap.size+1,o,none⟩=false)∧Below (w.heap.size+1) wY (w2.setCell ⟨w.heap.size+1,4,none⟩ (.slice a9 (0+1) b0))):=
       ⟨zD _ _ _ _ _ r4,zh d6 ((zj.refl (fun b=>b=w.heap.size+1) w2).setCell (p:=⟨w.heap.size+1,4,none⟩) (.inl rfl) _) (fun g e e2=>by have:=(d6.lt g e).1;omega),fun o ho=>(z9 _ _ _ _ _ ho).trans (cl o),fun o=>by rw[World.frozen?_setCell,fl];exact qf o,(qb.grown c7 (by omega) (fun k e=>by have:=(qo.lt k e).1;omega)).setCell (p:=⟨w.heap.size+1,4,none⟩) (j0a _) _⟩
      have HQ:=zd (And.intro q1 (And.intro q0 (And.intro q2 q3)));clear cl fl b3 b9 d5 d6 a6 c7 qo q4 qb q0 q1 q2 q3 qf c9;go_wp2;go_roundw
      case rel=>first|exact⟨k+1,k+1,0+1,_,by go_num,by go_num,by omega,HR.out.1,HR.out.2.1,(HR.out.2.2.1 1 (by omega)).trans HQ.out.1,(HR.out.2.2.1 0 (by omega)).trans HQ.out.2.1,(HR.out.2.2.1 2 (by omega)).trans HQ.out.2.2.1,(HR.out.2.2.1 3 (by omega)).trans HQ.out.2.2.2,HR.out.2.2.2.1,HR.out.2.2.2.2,.inr ⟨by have:=a0.out;omega,by have:=f3.out;omega⟩⟩|exact⟨k+1,k+1,0+1,_,by go_num,by go_num,by omega,HR.out.1,HR.out.2.1,(HR.out.2.2.1 1 (by omega)).trans HQ.out.1,(HR.out.2.2.1 0 (by omega)).trans HQ.out.2.1,(HR.out.2.2.1 2 (by omega)).trans HQ.out.2.2.1,(HR.out.2.2.1 3 (by omega)).trans HQ.out.2.2.2,HR.out.2.2.2.1,HR.out.2.2.2.2,.inl ⟨by have:=a0.out;omega,by omega,j0a _,by omega,b5.out⟩⟩
      case measure=>simp[intOf];omega
     ·skip
      have d8:=zd d3;have a0:=zd a5;first
       |(have f3:=zd f0
         have b1:((k:Int)==(s.length:Int))=true:=by simp;omega)
       |(have a4:k<s.length:=by have:=b8.out;rw[if_neg a0.out]at this;have:=d8.out;omega
         obtain⟨c6,a8⟩:=d7.out.sep (by rw[e3.out];exact d8.out) a0.out a4;have b1:((k:Int)==(s.length:Int))=false:=by simp;omega
         have b2:(((({data:=s.toArray}:ByteArray)[k]'(by simpa[ByteArray.size]using a4)).toNat:Int)==59)=true:=by
          rw[Zp s k a4,c6];rfl
         have b5:=zd a8;clear c6 a8)
      obtain⟨p,rfl⟩:∃p,m=p+1:=⟨m-1,by omega⟩
      have e7:p<l.length:=by omega
      obtain⟨g,h7,i0,c7,g0⟩:∃g,va=some ⟨g,0,none⟩∧w.heap.size+2≤g∧g<wr.heap.size∧wr.cell? ⟨g,p,none⟩=some (.string ⟨(l[p]'e7).toArray⟩):=by
       cases va with
       |none=>exact absurd (b4 rfl).1 (by omega)
       |some ad=>
        obtain⟨g,rfl,a1,a2,_,a3⟩:=c9.out ad rfl;exact⟨g,rfl,a1,a2,a3 p _ (by rw[List.getElem?_map,List.getElem?_take_of_lt (by omega),j0d e7];rfl)⟩
      subst h7;have g1:Op.bytesLess (l[p]'e7) y=true:=by rw[←e3.out];exact HS.out p (p+1) e7 hm (by omega)
      generalize hz:l[p]'e7=z at*;clear hz;first
       |(clear d3 a5 e9 e6 b4 e8 f0)
       |(clear d3 a5 e9 e6 b4 e8)
      try clear g2
      go_wp2_with fail
      rw[HX.out];refine(f8.out _).mono ?_;rintro e w1 ⟨rfl,rfl⟩;have g8:w.heap.size+1+1≤w1.heap.size:=by have:=g3;omega
      go_wp2_with (at_builtin;go_loud (refine Zi w1 rfl _ _ 45 rfl (w.heap.size+2) 9 (.string ⟨#[]⟩) 1 16 Tryz.underlying45 Tryz.info9 rfl (by decide) qo _ rfl (by rfl) (by rfl) (by intro u hu;simp at hu;subst hu;rfl) (by unfold maxLen;omega) (by omega) (by omega) ?_))
      intro v2 w2 d5 c7;have b9:(Value.slice (some ⟨g,0,none⟩) (p+1) vc).ownBlock≠some (w.heap.size+1):=fun e=>by have:=(qo.lt _ e).1;omega
      have b3:w2.heap[w.heap.size+1]? =w1.heap[w.heap.size+1]? :=c7.block _ (by omega) (fun e=>b9 e.symm);have cl:∀o,w2.cell? ⟨w.heap.size+1,o,none⟩=w1.cell? ⟨w.heap.size+1,o,none⟩:=fun o=>World.cell?_of_block (a:=⟨w.heap.size+1,o,none⟩) b3
      have fl:∀o,w2.frozen? ⟨w.heap.size+1,o,none⟩=w1.frozen? ⟨w.heap.size+1,o,none⟩:=fun o=>World.frozen?_of_block (a:=⟨w.heap.size+1,o,none⟩) b3
      have r4:=(cl 4).trans q4;have h9:=(fl 4).trans (qf 4);obtain⟨a9,b0,f6,_⟩:=za d5;subst f6;have a6:(l.take ((p+1)+1)).map S=(l.take (p+1)).map S++ [.string ⟨y.toArray⟩]:=by rw[List.take_succ_eq_append_getElem hm,List.map_append,e3.out];rfl
      have d6:w2.ownsRow (w.heap.size+2) 9 1 (.slice a9 ((p+1)+1) b0) ((p+1)+1) ((l.take ((p+1)+1)).map S):=by rw[a6];simpa using d5
      have HR:Hid ((w2.setCell ⟨w.heap.size+1,4,none⟩ (.slice a9 ((p+1)+1) b0)).cell? ⟨w.heap.size+1,4,none⟩=some (.slice a9 ((p+1)+1) b0)∧(w2.setCell ⟨w.heap.size+1,4,none⟩ (.slice a9 ((p+1)+1) b0)).ownsRow (w.heap.size+2) 9 1 (.slice a9 ((p+1)+1) b0) ((p+1)+1) ((l.take ((p+1)+1)).map S)∧
        (∀o,o≠4→(w2.setCell ⟨w.heap.size+1,4,none⟩ (.slice a9 ((p+1)+1) b0)).cell? ⟨w.heap.size+1,o,none⟩=w1.cell? ⟨w.heap.size+1,o,none⟩)∧(∀o,(w2.setCell ⟨w.heap.size+1,4,none⟩ (.slice a9 ((p+1)+1) b0)).frozen? ⟨w.heap.size+1,o,none⟩=false)∧Below (w.heap.size+1) wY (w2.setCell ⟨w.heap.size+1,4,none⟩ (.slice a9 ((p+1)+1) b0))):=
       ⟨zD _ _ _ _ _ r4,zh d6 ((zj.refl (fun b=>b=w.heap.size+1) w2).setCell (p:=⟨w.heap.size+1,4,none⟩) (.inl rfl) _) (fun g e e2=>by have:=(d6.lt g e).1;omega),fun o ho=>(z9 _ _ _ _ _ ho).trans (cl o),fun o=>by rw[World.frozen?_setCell,fl];exact qf o,(qb.grown c7 (by omega) (fun k e=>by have:=(qo.lt k e).1;omega)).setCell (p:=⟨w.heap.size+1,4,none⟩) (j0a _) _⟩
      have HQ:=zd (And.intro q1 (And.intro q0 (And.intro q2 q3)));clear cl fl b3 b9 d5 d6 a6 c7 qo q4 qb q0 q1 q2 q3 qf c9;go_wp2;go_roundw
      case rel=>first|exact⟨k+1,k+1,(p+1)+1,_,by go_num,by go_num,by omega,HR.out.1,HR.out.2.1,(HR.out.2.2.1 1 (by omega)).trans HQ.out.1,(HR.out.2.2.1 0 (by omega)).trans HQ.out.2.1,(HR.out.2.2.1 2 (by omega)).trans HQ.out.2.2.1,(HR.out.2.2.1 3 (by omega)).trans HQ.out.2.2.2,HR.out.2.2.2.1,HR.out.2.2.2.2,.inr ⟨by have:=a0.out;omega,by have:=f3.out;omega⟩⟩|exact⟨k+1,k+1,(p+1)+1,_,by go_num,by go_num,by omega,HR.out.1,HR.out.2.1,(HR.out.2.2.1 1 (by omega)).trans HQ.out.1,(HR.out.2.2.1 0 (by omega)).trans HQ.out.2.1,(HR.out.2.2.1 2 (by omega)).trans HQ.out.2.2.1,(HR.out.2.2.1 3 (by omega)).trans HQ.out.2.2.2,HR.out.2.2.2.1,HR.out.2.2.2.2,.inl ⟨by have:=a0.out;omega,by omega,j0a _,by omega,b5.out⟩⟩
      case measure=>simp[intOf];omega
  ·subst h2 h0
   have b1:¬((s.length:Int)+1≤(s.length:Int)):=by omega
   have zt:∀o u,wY.cell? ⟨w.heap.size,o,none⟩=some u→wr.cell? ⟨w.heap.size,o,none⟩=some u:=fun o u h=>by rw[qb.cell (p:=⟨w.heap.size,o,none⟩) (Nat.lt_succ_self _)];exact h
   have z0:wr.cell? ⟨w.heap.size,0,none⟩=some (.string ⟨#[]⟩):=zt 0 _ (e4.out 0 _ rfl);have z1:wr.cell? ⟨w.heap.size,1,none⟩=some (.int .u8 0):=zt 1 _ (e4.out 1 _ rfl);have z2:wr.cell? ⟨w.heap.size,2,none⟩=some (.int .i64 0):=zt 2 _ (e4.out 2 _ rfl);have z3:wr.cell? ⟨w.heap.size,3,none⟩=some (.string ⟨#[]⟩):=zt 3 _ (e4.out 3 _ rfl);have z4:wr.cell? ⟨w.heap.size,4,none⟩=some (.slice none 0 0):=zt 4 _ (e4.out 4 _ rfl);have zf:∀o,wr.frozen? ⟨w.heap.size,o,none⟩=false:=fun o=>by rw[qb.frozen (p:=⟨w.heap.size,o,none⟩) (Nat.lt_succ_self _)];exact g7.out o
   have i2:(l.length:Int)≤8:=by omega
   have i3:(0:Int)<(l.length:Int):=by have:=List.length_pos_iff.2 b9;omega
   have i4:0<l.length:=List.length_pos_iff.2 b9;have QO:=zd qo;have QB:=zd qb;clear a6 b4 zt qo qb;go_wp2;go_region_held3 (fun w' =>w'.cell? ⟨w.heap.size+1,0,none⟩=some (.string ⟨path.toArray⟩)∧w'.cell? ⟨w.heap.size+1,1,none⟩=some (.int .u8 42)∧w'.cell? ⟨w.heap.size+1,2,none⟩=some (.int .i64 0)∧w'.cell? ⟨w.heap.size+1,3,none⟩=some (.string ⟨#[]⟩)∧w'.cell? ⟨w.heap.size+1,4,none⟩=some (.slice va l.length vc)) (go_keep) (fail)
   rename_i e5;clear e5;have HK:Hid (zj (fun b=>b=w.heap.size) wr (((((wr.setCell ⟨w.heap.size,0,none⟩ (.string ⟨path.toArray⟩)).setCell ⟨w.heap.size,1,none⟩ (.int .u8 42)).setCell ⟨w.heap.size,2,none⟩ (.int .i64 0)).setCell ⟨w.heap.size,3,none⟩ (.string ⟨#[]⟩)).setCell ⟨w.heap.size,4,none⟩ (.slice va l.length vc)).drew):=(((((((zj.refl (fun b=>b=w.heap.size) wr).setCell (p:=⟨w.heap.size,0,none⟩) (.inl rfl) _).setCell (p:=⟨w.heap.size,1,none⟩) (.inl rfl) _).setCell (p:=⟨w.heap.size,2,none⟩) (.inl rfl) _).setCell (p:=⟨w.heap.size,3,none⟩) (.inl rfl) _).setCell (p:=⟨w.heap.size,4,none⟩) (.inl rfl) _)).drewN 1;have g5:Hid (Below w.heap.size w (((((wr.setCell ⟨w.heap.size,0,none⟩ (.string ⟨path.toArray⟩)).setCell ⟨w.heap.size,1,none⟩ (.int .u8 42)).setCell ⟨w.heap.size,2,none⟩ (.int .i64 0)).setCell ⟨w.heap.size,3,none⟩ (.string ⟨#[]⟩)).setCell ⟨w.heap.size,4,none⟩ (.slice va l.length vc)).drew):=(((((((g9.trans (QB.out.mono (Nat.le_succ _))).setCell (p:=⟨w.heap.size,0,none⟩) (j0a _) _).setCell (p:=⟨w.heap.size,1,none⟩) (j0a _) _).setCell (p:=⟨w.heap.size,2,none⟩) (j0a _) _).setCell (p:=⟨w.heap.size,3,none⟩) (j0a _) _).setCell (p:=⟨w.heap.size,4,none⟩) (j0a _) _)).drew;obtain⟨r0,r1,r2,r3,r4⟩:=Fa wr w.heap.size _ _ _ _ _ (.string ⟨path.toArray⟩) (.int .u8 42) (.int .i64 0) (.string ⟨#[]⟩) (.slice va l.length vc) z0 z1 z2 z3 z4;generalize(((((wr.setCell ⟨w.heap.size,0,none⟩ (.string ⟨path.toArray⟩)).setCell ⟨w.heap.size,1,none⟩ (.int .u8 42)).setCell ⟨w.heap.size,2,none⟩ (.int .i64 0)).setCell ⟨w.heap.size,3,none⟩ (.string ⟨#[]⟩)).setCell ⟨w.heap.size,4,none⟩ (.slice va l.length vc)).drew=W5 at*;clear z0 z1 z2 z3 z4;go_wp2;refine bodyPost_ret (v:= .tuple #[.agg #[.string ⟨path.toArray⟩,.int .u8 42,.int .i64 0,.string ⟨#[]⟩,.slice va l.length vc],.bool true]) (by simp[results,Tryz.results213,go_sem,r0,r1,r2,r3,r4]) rfl ⟨_,rfl,?_,g5.out⟩;have:=zh QO.out HK.out (fun g e e2=>by have:=(QO.out.lt g e).1;omega);rwa[List.take_length]at this
theorem G3 (x:R.Leaf)(hx:OkL x)(w:World):
  Calls Tryz.prog 213 #[.string ⟨x.path.toArray⟩,.string ⟨(R.written x).toArray⟩] w fun e w' =>∃ia ic,e= .returned (.tuple #[.agg #[.string ⟨x.path.toArray⟩,.int .u8 x.kind,.int .i64 x.n,.string ⟨x.text.toArray⟩,.slice ia x.items.length ic],.bool true])∧It w' (fun b=>b<w.heap.size) (x,.slice ia x.items.length ic)∧Below w.heap.size w w' :=by
 obtain⟨p,k,n,t,it⟩:=x;rcases hx.kind with⟨e1,e2,e3⟩|⟨e1,e2,e3⟩|⟨e1,e2,e3,e4⟩<;>simp only at e1 e2 e3<;>subst e1 e2 e3
 ·refine(oI p n w hx.hi hx.lo).mono ?_
  rintro e w' ⟨rfl,hb⟩;exact⟨none,0,rfl,⟨none,0,rfl,j0a _,by unfold maxLen;omega,fun h=>absurd h (by simp)⟩,hb⟩
 ·refine(oG p t w hx.text (Zz _ hx.text)).mono ?_
  rintro e w' ⟨rfl,hb⟩;exact⟨none,0,rfl,⟨none,0,rfl,j0a _,by unfold maxLen;omega,fun h=>absurd h (by simp)⟩,hb⟩
 ·refine(oH p it w e4 hx.many hx.item hx.sort).mono ?_
  rintro e w' ⟨iv,rfl,ho,hb⟩;obtain⟨ia,ic,rfl,_⟩:=za ho;exact⟨ia,ic,rfl,Rd.of_owns ho (fun b h=>by omega),hb⟩
structure Ln (s p u r:List UInt8):Prop where
 eq:s=p++32::(u++10::r)
 np:∀c∈p,c≠32∧c≠10
 nu:∀c∈u,c≠10
section
variable {s p u r:List UInt8}
theorem Ln.len (h:Ln s p u r):s.length=p.length+1+u.length+1+r.length:=by rw[h.eq];simp;omega
theorem Ln.a1 (h:Ln s p u r)(j:Nat)(hj:j<p.length)(hs:j<s.length):s[j]≠32∧s[j]≠10:=by
 have e:s[j]? =p[j]? :=by rw[h.eq,List.getElem?_append_left hj]
 rw[j0d hs,j0d hj]at e;rw[Option.some.inj e];exact h.np _ (j0c hj)
theorem Ln.a2 (h:Ln s p u r)(hs:p.length<s.length):s[p.length]=32:=by
 have e:s[p.length]? =some 32:=by rw[h.eq,List.getElem?_append_right (j0a _)];simp
 rw[j0d hs]at e;exact Option.some.inj e
theorem Ln.a3 (h:Ln s p u r)(j:Nat)(h1:p.length<j)(h2:j<p.length+1+u.length)(hs:j<s.length):s[j]≠10:=by
 obtain⟨i,rfl⟩:∃i,j=p.length+1+i:=⟨j-p.length-1,by omega⟩
 have hi:i<u.length:=by omega
 have e:s[p.length+1+i]? =u[i]? :=by
  rw[h.eq,List.getElem?_append_right (by omega),show p.length+1+i-p.length=i+1 by omega,List.getElem?_cons_succ,List.getElem?_append_left hi]
 rw[j0d hs,j0d hi]at e;rw[Option.some.inj e];exact h.nu _ (j0c hi)
theorem Ln.a4 (h:Ln s p u r)(hs:p.length+1+u.length<s.length):s[p.length+1+u.length]=10:=by
 have e:s[p.length+1+u.length]? =some 10:=by
  rw[h.eq,List.getElem?_append_right (by omega),show p.length+1+u.length-p.length=u.length+1 by omega,List.getElem?_cons_succ,List.getElem?_append_right (j0a _)];simp
 rw[j0d hs]at e;exact Option.some.inj e
theorem Ln.c1 (h:Ln s p u r):({data:=s.toArray}:ByteArray).extract 0 p.length=⟨p.toArray⟩:=by
 have h1:=Yl s 0 p.length;rw[h.eq]at h1⊢;simpa[S]using h1
theorem Ln.c2 (h:Ln s p u r):({data:=s.toArray}:ByteArray).extract (p.length+1) (p.length+1+u.length)=⟨u.toArray⟩:=by
 have h1:=Yl s (p.length+1) (p.length+1+u.length);have h2:(s.drop (p.length+1)).take (p.length+1+u.length-(p.length+1))=u:=by
  rw[h.eq,List.drop_append,List.drop_of_length_le (by omega),show p.length+1-p.length=1 by omega,show p.length+1+u.length-(p.length+1)=u.length by omega];simp
 rw[h2]at h1;simpa[S]using h1
theorem Ln.c3 (h:Ln s p u r)(m:Nat)(hm:m=s.length):({data:=s.toArray}:ByteArray).extract (p.length+1+u.length+1) m=⟨r.toArray⟩:=by
 have h1:=Yl s (p.length+1+u.length+1) m;have h2:(s.drop (p.length+1+u.length+1)).take (m-(p.length+1+u.length+1))=r:=by
  have hl:=h.len;have h3:s.drop (p.length+1+u.length+1)=r:=by
   rw[h.eq,show p++32::(u++10::r)=(p++32::(u++ [10]))++r by simp,List.drop_left' (by simp;omega)]
  rw[h3,List.take_of_length_le (by omega)]
 rw[h2]at h1;simpa[S]using h1
end
theorem Gf (t:List R.Leaf)(k:Nat)(h:k<t.length)(ht:∀x∈t,OkL x):Ln (R.Written (t.drop k)) t[k].path (R.written t[k]) (R.Written (t.drop (k+1))):=by
 refine⟨?_,(ht _ (j0c h)).no32,(ht _ (j0c h)).no10⟩;rw[List.drop_eq_getElem_cons h,R.Written,List.flatMap_cons];simp only[R.line,List.append_assoc,List.cons_append,List.nil_append];rfl
def U1:Value→Nat
 | .string b=>b.size
 |_=>0
theorem G_ (t:List R.Leaf)(hT:OkT t)(w:World):
  Calls Tryz.prog 162 #[.string ⟨(R.Written t).toArray⟩] w fun e w' =>∃v,e= .returned (.tuple #[v,.bool true])∧Tr w' (fun b=>b<w.heap.size) v t∧Below w.heap.size w w' :=by
 have HT:=zd hT;have k5:=hT.few;clear hT;obtain⟨s0,f9⟩:∃s0,s0=R.Written t:=⟨_,rfl⟩
 rw[←f9];have j1:=zd f9;clear f9;go_enter Tryz.func162,Tryz.ntmps162;go_wp2;go_loopw [0,4] (fun s tv wr=>∃(k:Nat) (a5:List (R.Leaf×Value)) (sl:List UInt8),k≤t.length∧s= .string ⟨sl.toArray⟩∧sl=R.Written (t.drop k)∧a5.length=k∧wr.ownsRow w.heap.size 216 5 tv a5.length (Za a5)∧a5.map (·.1)=t.take k∧(∀p∈a5,It wr (fun b=>b<w.heap.size∨tv.ownBlock=some b) p)∧Below w.heap.size w wr) (fun s _ _=>U1 s)
 case atStart=>exact⟨0,[],s0,Nat.zero_le _,rfl,j1.out,rfl,World.ownsRow_nil _ _ _ _,rfl,by simp,j0g _ _⟩
 case round=>
  obtain⟨k,a5,s,hk,rfl,hs,b0,b5,d4,g4,hb⟩:=hrel;by_cases e6:k<t.length
  ·have e1:=Gf t k e6 HT.out.ok
   rw[←hs]at e1;have h7:=HT.out.ok _ (j0c e6);obtain⟨x,hx⟩:∃x,x=t[k]:=⟨_,rfl⟩
   rw[←hx]at e1 h7;have f7:=e1.len;have l4:s.length≤216000:=by
    have h1:=Q1 (t.drop k) (fun y hy=>HT.out.ok y (List.mem_of_mem_drop hy));rw[←hs,List.length_drop]at h1;omega
   have l3:s.isEmpty=false:=by cases s with|nil=>(simp only[List.length_nil]at f7;omega)|cons=>rfl
   have l5:(0:Int)<(s.length:Int):=by omega
   have i8:=zd e1;have g2:=zd h7;have g3:=zd hx;have k4:=zd hs;have a7:=zd b5;have d3:=zd d4;have g9:=zd g4;have c7:=zd hb;obtain⟨ta,tc,h8,k1,h4,g5,g6⟩:=za b5;subst h8;unfold maxLen at h4;have i9:=zd g5;have j0:=zd g6;obtain⟨P,hP⟩:∃P,P=x.path:=⟨_,rfl⟩
   obtain⟨U,hU⟩:∃U,U=R.written x:=⟨_,rfl⟩
   obtain⟨r,hr⟩:∃r,r=R.Written (t.drop (k+1)):=⟨_,rfl⟩
   rw[←hP,←hU,←hr]at e1;have HP:=zd hP;have HU:=zd hU;have HR:=zd hr;have HL:=zd e1;have d9:=e1.len;obtain⟨E,hE⟩:∃E,E=P.length+1+U.length:=⟨_,rfl⟩
   have k7:P.length<E:=by omega
   have k6:E<s.length:=by omega
   have HE:=zd hE;have d7:=zd d9;clear e1 h7 hx hs b5 d4 g4 hb g5 g6 hP hU hr f7 i8 hE d9;go_wp2;go_loop [5,6,7] (fun b e i=>∃j:Nat,i= .int .i64 j∧((j≤P.length∧b= .int .i64 (-1)∧e= .int .i64 (-1))∨(P.length<j∧j≤E∧b= .int .i64 P.length∧e= .int .i64 (-1))∨(j=E+1∧b= .int .i64 P.length∧e= .int .i64 E))) (fun _ _ i=>s.length-(intOf i).toNat)
   case atStart=>exact⟨0,rfl,.inl ⟨Nat.zero_le _,rfl,rfl⟩⟩
   case round=>
    obtain⟨j,rfl,hc⟩:=hrel;rcases hc with⟨hj,rfl,rfl⟩|⟨j5,l0,rfl,rfl⟩|⟨hj,rfl,rfl⟩
    ·have a6:j<s.length:=by omega
     by_cases j7:j<P.length
     ·obtain⟨n1,n2⟩:=HL.out.a1 j j7 a6
      have b1:(((({data:=s.toArray}:ByteArray)[j]'(by simpa[ByteArray.size]using a6)).toNat:Int)==32)=false:=by
       rw[Zp s j a6];simp;intro h;exact n1 (UInt8.toNat_inj.1 (by simpa using Int.ofNat.inj h))
      have b2:(((({data:=s.toArray}:ByteArray)[j]'(by simpa[ByteArray.size]using a6)).toNat:Int)==10)=false:=by
       rw[Zp s j a6];simp;intro h;exact n2 (UInt8.toNat_inj.1 (by simpa using Int.ofNat.inj h))
      clear n1 n2;go_wp2;go_round
      case rel=>first|exact⟨j+1,by go_num,.inl ⟨by omega,rfl,rfl⟩⟩|(refine⟨_,?_,rfl⟩;exact⟨j+1,by go_num,.inl ⟨by omega,rfl,rfl⟩⟩)|(refine⟨_,_,?_,rfl,rfl⟩;exact⟨j+1,by go_num,.inl ⟨by omega,rfl,rfl⟩⟩)|(refine⟨_,_,_,?_,rfl,rfl,rfl⟩;exact⟨j+1,by go_num,.inl ⟨by omega,rfl,rfl⟩⟩)
      case measure=>simp[intOf];omega
     ·obtain rfl:j=P.length:=by omega
      have n1:=HL.out.a2 a6;have b1:(((({data:=s.toArray}:ByteArray)[P.length]'(by simpa[ByteArray.size]using a6)).toNat:Int)==32)=true:=by
       rw[Zp s _ a6,n1];rfl
      have b2:(((({data:=s.toArray}:ByteArray)[P.length]'(by simpa[ByteArray.size]using a6)).toNat:Int)==10)=false:=by
       rw[Zp s _ a6,n1];rfl
      clear n1;go_wp2;go_round
      case rel=>first|exact⟨P.length+1,by go_num,.inr (.inl ⟨by omega,by omega,rfl,rfl⟩)⟩|(refine⟨_,?_,rfl⟩;exact⟨P.length+1,by go_num,.inr (.inl ⟨by omega,by omega,rfl,rfl⟩)⟩)|(refine⟨_,_,?_,rfl,rfl⟩;exact⟨P.length+1,by go_num,.inr (.inl ⟨by omega,by omega,rfl,rfl⟩)⟩)|(refine⟨_,_,_,?_,rfl,rfl,rfl⟩;exact⟨P.length+1,by go_num,.inr (.inl ⟨by omega,by omega,rfl,rfl⟩)⟩)
      case measure=>simp[intOf];omega
    ·have a6:j<s.length:=by omega
     by_cases j6:j<E
     ·have n1:=HL.out.a3 j j5 (by rw[←HE.out];exact j6) a6
      have b2:(((({data:=s.toArray}:ByteArray)[j]'(by simpa[ByteArray.size]using a6)).toNat:Int)==10)=false:=by
       rw[Zp s j a6];simp;intro h;exact n1 (UInt8.toNat_inj.1 (by simpa using Int.ofNat.inj h))
      clear n1
      cases b1:(((({data:=s.toArray}:ByteArray)[j]'(by simpa[ByteArray.size]using a6)).toNat:Int)==32)
      all_goals
       go_wp2;go_round
       case rel=>first|exact⟨j+1,by go_num,.inr (.inl ⟨by omega,by omega,rfl,rfl⟩)⟩|(refine⟨_,?_,rfl⟩;exact⟨j+1,by go_num,.inr (.inl ⟨by omega,by omega,rfl,rfl⟩)⟩)|(refine⟨_,_,?_,rfl,rfl⟩;exact⟨j+1,by go_num,.inr (.inl ⟨by omega,by omega,rfl,rfl⟩)⟩)|(refine⟨_,_,_,?_,rfl,rfl,rfl⟩;exact⟨j+1,by go_num,.inr (.inl ⟨by omega,by omega,rfl,rfl⟩)⟩)
       case measure=>simp[intOf];omega
     ·obtain rfl:j=E:=by omega
      have n1:s[j]=10:=by
       have h0:=HE.out;subst h0;exact HL.out.a4 a6
      have b1:(((({data:=s.toArray}:ByteArray)[j]'(by simpa[ByteArray.size]using a6)).toNat:Int)==32)=false:=by
       rw[Zp s _ a6,n1];rfl
      have b2:(((({data:=s.toArray}:ByteArray)[j]'(by simpa[ByteArray.size]using a6)).toNat:Int)==10)=true:=by
       rw[Zp s _ a6,n1];rfl
      clear n1;go_wp2;go_round
      case rel=>first|exact⟨j+1,by go_num,.inr (.inr ⟨rfl,rfl,by go_num⟩)⟩|(refine⟨_,?_,rfl⟩;exact⟨j+1,by go_num,.inr (.inr ⟨rfl,rfl,by go_num⟩)⟩)|(refine⟨_,_,?_,rfl,rfl⟩;exact⟨j+1,by go_num,.inr (.inr ⟨rfl,rfl,by go_num⟩)⟩)|(refine⟨_,_,_,?_,rfl,rfl,rfl⟩;exact⟨j+1,by go_num,.inr (.inr ⟨rfl,rfl,by go_num⟩)⟩)
      case measure=>simp[intOf];omega
    ·subst hj
     have k8:P.length≤100:=by rw[HP.out];exact yN _ g2.out.path
     have i2:Hid (({data:=s.toArray}:ByteArray).extract 0 P.length=⟨P.toArray⟩):=HL.out.c1;have i3:Hid (({data:=s.toArray}:ByteArray).extract (P.length+1) E=⟨U.toArray⟩):=by have:=HL.out.c2;rw[←HE.out]at this;exact this
     have e8:Hid (({data:=s.toArray}:ByteArray).extract (E+1) s.length=⟨r.toArray⟩):=by have:=HL.out.c3 _ rfl;rw[←HE.out]at this;exact this
     have i4:Hid (∀W,Calls Tryz.prog 168 #[.string ⟨P.toArray⟩] W fun e w' =>e= .returned (.bool true)∧Below W.heap.size W w'):=fun W=>by
      have:=y7 P W (by unfold maxLen;omega);rwa[show R.isPath P=true by rw[HP.out];exact g2.out.path]at this
     have i5:Hid (∀W,Calls Tryz.prog 213 #[.string ⟨P.toArray⟩,.string ⟨U.toArray⟩] W fun e w' =>∃ia ic,e= .returned (.tuple #[.agg #[.string ⟨P.toArray⟩,.int .u8 x.kind,.int .i64 x.n,.string ⟨x.text.toArray⟩,.slice ia x.items.length ic],.bool true])∧It w' (fun b=>b<W.heap.size) (x,.slice ia x.items.length ic)∧Below W.heap.size W w'):=fun W=>by
      have:=G3 x g2.out W;rwa[←HP.out,←HU.out]at this
     have i1:Hid (∀W,Below wr.heap.size wr W→Calls Tryz.prog 173 #[.slice ta k tc,.string ⟨P.toArray⟩] W fun e w' =>e= .returned (.bool false)∧w' =W):=fun W hW=>by
      have j2:Tr wr (fun b=>b<w.heap.size) (.slice ta a5.length tc) (t.take k):=⟨a5,d3.out,Rd.of_owns a7.out (fun b h=>h),fun p hp=>Rd.step (g9.out p hp) (zj.refl (fun _=>False) wr) (fun b e=>e.elim) (fun b e=> .inl (.inl e))⟩
      have:=Q8 (.slice ta a5.length tc) (t.take k) P W _ (j2.kept (zj.of_below hW));rwa[b0,show R.blocked (t.take k) P=false by
       rw[HP.out,g3.out];refine List.any_eq_false.2 fun y hy=> ?_
       have i6 :=List.mem_of_mem_take hy;rw[HT.out.free y i6 _ (j0c e6),HT.out.free _ (j0c e6) y i6];decide]at this
     have j8:(k:Int)<24:=by omega
     by_cases j9:k=0
     ·subst j9
      rcases Nat.lt_or_ge (E+1) s.length with e5|e5
      all_goals
       skip
       obtain rfl:a5=[]:=List.eq_nil_of_length_eq_zero b0;go_wp2_with fail
       rw[i2.out];refine(i4.out _).mono ?_;rintro e w1 ⟨rfl,e9⟩;have d6:=zd e9;clear e9;go_wp2_with fail
       rw[i3.out];refine(i5.out _).mono ?_;rintro e w2 ⟨ia,ic,rfl,f6,e3⟩;have g8:=zd f6;have c8:Hid (Below wr.heap.size wr w2):=d6.out.trans (e3.mono d6.out.size);have i0:wr.heap.size≤w1.heap.size:=d6.out.size;have b3:wr.heap.size≤w2.heap.size:=c8.out.size;clear f6 e3;go_wp2_with fail
       refine(i1.out _ (c8.out.alloc b3 _)).mono ?_;rintro e w3 ⟨rfl,a9⟩;have x0:w3.cell? ⟨w2.heap.size,0,none⟩=some (.string ⟨P.toArray⟩):=by rw[a9];simp
       have x1:w3.cell? ⟨w2.heap.size,1,none⟩=some (.int .u8 x.kind):=by rw[a9];simp
       have x2:w3.cell? ⟨w2.heap.size,2,none⟩=some (.int .i64 x.n):=by rw[a9];simp
       have x3:w3.cell? ⟨w2.heap.size,3,none⟩=some (.string ⟨x.text.toArray⟩):=by rw[a9];simp
       have x4:w3.cell? ⟨w2.heap.size,4,none⟩=some (.slice ia x.items.length ic):=by rw[a9];simp
       have f0:Below w2.heap.size w2 w3:=by rw[a9];exact(j0g _ _).alloc (j0a _) _
       have f3:w2.heap.size<w3.heap.size:=by rw[a9];simp
       have c9:=zd f0;clear a9 f0;have c6:w3.ownsRow w.heap.size 216 5 (.slice ta 0 tc) 0 (Za ([]:List (R.Leaf×Value))):=by
        have:=zw a7.out (c8.out.trans (c9.out.mono b3));rwa[b0]at this
       go_wp2_with (at_builtin;go_loud (refine yw _ (by rfl) _ _ 78 (by rfl) w.heap.size 216 (.agg #[.string ⟨#[]⟩,.int .u8 0,.int .i64 0,.string ⟨#[]⟩,.slice none 0 0]) 5 72 Tryz.underlying78 Tryz.info216 (by rfl) (by decide) (c6.alloc _) ⟨w3.heap.size,0,none⟩ 1 1 [.string ⟨P.toArray⟩,.int .u8 x.kind,.int .i64 x.n,.string ⟨x.text.toArray⟩,.slice ia x.items.length ic] (by rfl) (by exact zE w3 #[.string ⟨P.toArray⟩,.int .u8 x.kind,.int .i64 x.n,.string ⟨x.text.toArray⟩,.slice ia x.items.length ic] 216) (by rfl) (by rfl) (YE _ _ _ _ _ _ _) (by unfold maxLen;omega) (by omega) (by have:=c7.out.size;simp;omega) ?_))
       intro v5 w5 d5 f5;have a0 :Ap w3 w5 (.slice ta 0 tc) v5:=Ap.of f5;obtain⟨g0,g1,h9,_⟩:=za d5;subst h9;have a8:Hid (w5.ownsRow w.heap.size 216 5 (.slice g0 (0+1) g1) (([]:List (R.Leaf×Value))++ [(x,Value.slice ia x.items.length ic)]).length (Za (([]:List (R.Leaf×Value))++ [(x,Value.slice ia x.items.length ic)]))∧(([]:List (R.Leaf×Value))++ [(x,Value.slice ia x.items.length ic)]).map (·.1)=t.take (0+1)∧(∀p∈([]:List (R.Leaf×Value))++ [(x,Value.slice ia x.items.length ic)],It w5 (fun b=>b<w.heap.size∨(Value.slice g0 (0+1) g1).ownBlock=some b) p)∧Below w.heap.size w w5):=by
        have b4:zj (fun b=>(Value.slice ta 0 tc).ownBlock=some b) wr w5:=by
         have hb:=c8.out.trans (c9.out.mono b3);refine⟨a0.os.trans hb.os,a0.tape.trans hb.tape,a0.output.trans hb.output,j0f hb.size a0.size,fun b b6 e7=> ?_⟩;rw[a0.blk b (j0b b6 hb.size) e7];exact hb.block b b6
        refine⟨?_,?_,fun p hp=> ?_,?_⟩
        ·rw[List.length_append,List.length_singleton,b0,Z5,←HP.out];(first|exact d5|simpa[Za]using d5)
        ·rw[List.map_append,d3.out,List.take_succ_eq_append_getElem e6,←g3.out];rfl
        ·rcases List.mem_append.1 hp with hp|hp
         ·have h0:=g9.out p hp
          rw[b0]at h0;refine Rd.step h0 b4 (fun b e=> .inr e) (fun b e=> ?_);rcases e with e|e
          ·exact .inl (.inl e)
          ·rcases a0.lies b e with e|e
           ·exact .inl (.inr e)
           ·exact .inr (by omega)
         ·rw[List.mem_singleton.1 hp]
          refine Rd.step g8.out (O:=fun b=>(Value.slice ta 0 tc).ownBlock=some b) ⟨a0.os.trans c9.out.os,a0.tape.trans c9.out.tape,a0.output.trans c9.out.output,j0f c9.out.size a0.size,fun b b6 e7=> ?_⟩ (fun b e=> ?_) (fun b e=> ?_)
          ·rw[a0.blk b (by omega) e7];exact c9.out.block b b6
          ·have h2:b<wr.heap.size:=by have h3:=a7.out;rw[b0]at h3;exact(h3.lt b e).2
           omega
          ·rcases e with e|e
           ·have:=c7.out.size;exact .inl (by omega)
           ·rcases a0.lies b e with e|e
            ·have h2:b<wr.heap.size:=by have h3:=a7.out;rw[b0]at h3;exact(h3.lt b e).2
             exact .inl (by omega)
            ·exact .inr (by omega)
        ·refine c7.out.trans ⟨b4.os,b4.tape,b4.output,b4.size,fun b b6=>b4.block b (by have:=c7.out.size;omega) (fun e=> ?_)⟩
         have h3:=a7.out;rw[b0]at h3;have:=(h3.lt b e).1;omega
       clear d5 f5 a0 c6;go_wp2;go_roundw
       case rel=>exact⟨0+1,([]:List (R.Leaf×Value))++ [(x,Value.slice ia x.items.length ic)],r,by omega,by first|(rw[e8.out])|(simp[e8.out]),HR.out,by simp[b0],a8.out.1,a8.out.2.1,a8.out.2.2.1,a8.out.2.2.2⟩
       case measure=>
        have h1:=d7.out;have h2:=e8.out;simp[U1,h2,ByteArray.size];omega
     ·rcases Nat.lt_or_ge (E+1) s.length with e5|e5
      all_goals
       skip
       obtain⟨q,rfl⟩:∃q,k=q+1:=⟨k-1,by omega⟩
       have f8:q<a5.length:=by omega
       obtain⟨g,k3,k9,j3,b7⟩:∃g,ta=some ⟨g,0,none⟩∧w.heap.size≤g∧g<wr.heap.size∧wr.cell? ⟨g,q*5,none⟩=some (.string ⟨(a5[q]'f8).1.path.toArray⟩):=by
        cases ta with
        |none=>exact absurd (i9.out rfl).1 (by omega)
        |some ad=>
         obtain⟨g,rfl,a1,a2,_,a3⟩:=j0.out ad rfl;refine⟨g,rfl,a1,a2,?_⟩;have:=K7 (w:=wr) (b:=g) (off:=0) (L:=a5) (fun j u h=>by rw[Nat.zero_add];exact a3 j u h) q f8;simpa using this.1
       subst k3;have g7:(a5[q]'f8).1.path=(t[q]'(by omega)).path:=by
        have e:(a5.map (·.1))[q]? =(t.take (q+1))[q]? :=by rw[d3.out]
        rw[List.getElem?_map,j0d f8,List.getElem?_take_of_lt (by omega),j0d (by omega)]at e;simp at e;rw[e]
       have h5:=HT.out.ok _ (j0c (l:=t) (n:=q) (by omega));obtain⟨Pq,f4⟩:∃Pq,Pq=(a5[q]'f8).1.path:=⟨_,rfl⟩
       rw[←f4]at b7;have i7:Hid (∀W,Calls Tryz.prog 214 #[.string ⟨Pq.toArray⟩,.string ⟨P.toArray⟩] W fun e w' =>e= .returned (.bool true)∧Below W.heap.size W w'):=fun W=>by
        have l1:=yN _ h5.path;have:=UR Pq P W (by rw[f4,g7];omega) (by omega);rwa[show R.ahead Pq P=true by
         rw[vq Pq P (by rw[f4,g7];exact yo _ h5.path) (by rw[HP.out];exact yo _ g2.out.path),f4,g7,HP.out,g3.out];exact HT.out.sort q (q+1) (by omega) e6 (by omega)]at this
       clear g7 h5 f4;go_wp2_with fail
       rw[i2.out];refine(i4.out _).mono ?_;rintro e w1 ⟨rfl,e9⟩;have b8:w1.cell? ⟨g,q*5,none⟩=some (.string ⟨Pq.toArray⟩):=(e9.cell (p:=⟨g,q*5,none⟩) j3).trans b7;clear b7;have d6:=zd e9;clear e9;go_wp2_with fail
       rw[i3.out];refine(i5.out _).mono ?_;rintro e w2 ⟨ia,ic,rfl,f6,e3⟩;have k2:=d6.out.size;have b9:w2.cell? ⟨g,q*5,none⟩=some (.string ⟨Pq.toArray⟩):=(e3.cell (p:=⟨g,q*5,none⟩) (show g<w1.heap.size by omega)).trans b8;have j4:g<w2.heap.size:=by have:=e3.size;omega
       clear b8 k2;have g8:=zd f6;have c8:Hid (Below wr.heap.size wr w2):=d6.out.trans (e3.mono d6.out.size);have i0:wr.heap.size≤w1.heap.size:=d6.out.size;have b3:wr.heap.size≤w2.heap.size:=c8.out.size;clear f6 e3;go_wp2_with fail
       refine(i1.out _ (c8.out.alloc b3 _)).mono ?_;rintro e w3 ⟨rfl,a9⟩;have x0:w3.cell? ⟨w2.heap.size,0,none⟩=some (.string ⟨P.toArray⟩):=by rw[a9];simp
       have x1:w3.cell? ⟨w2.heap.size,1,none⟩=some (.int .u8 x.kind):=by rw[a9];simp
       have x2:w3.cell? ⟨w2.heap.size,2,none⟩=some (.int .i64 x.n):=by rw[a9];simp
       have x3:w3.cell? ⟨w2.heap.size,3,none⟩=some (.string ⟨x.text.toArray⟩):=by rw[a9];simp
       have x4:w3.cell? ⟨w2.heap.size,4,none⟩=some (.slice ia x.items.length ic):=by rw[a9];simp
       have f0:Below w2.heap.size w2 w3:=by rw[a9];exact(j0g _ _).alloc (j0a _) _
       have f3:w2.heap.size<w3.heap.size:=by rw[a9];simp
       have e4:w3.cell? ⟨g,q*5,none⟩=some (.string ⟨Pq.toArray⟩):=(f0.cell (p:=⟨g,q*5,none⟩) j4).trans b9;clear b9;have c9:=zd f0;clear a9 f0;go_wp2_with fail
       refine(i7.out _).mono ?_;rintro e w4 ⟨rfl,d8⟩;have y0:=(d8.cell (p:=⟨w2.heap.size,0,none⟩) f3).trans x0;have y1:=(d8.cell (p:=⟨w2.heap.size,1,none⟩) f3).trans x1;have y2:=(d8.cell (p:=⟨w2.heap.size,2,none⟩) f3).trans x2;have y3:=(d8.cell (p:=⟨w2.heap.size,3,none⟩) f3).trans x3;have y4:=(d8.cell (p:=⟨w2.heap.size,4,none⟩) f3).trans x4;have e2:Hid (Below w2.heap.size w2 w4):=c9.out.trans (d8.mono (by omega));have l2:w2.heap.size<w4.heap.size:=by have:=d8.size;omega
       clear x0 x1 x2 x3 x4 d8 e4;have c6:w4.ownsRow w.heap.size 216 5 (.slice (some ⟨g,0,none⟩) (q+1) tc) (q+1) (Za a5):=by
        have:=zw a7.out (c8.out.trans (e2.out.mono b3));rwa[b0]at this
       go_wp2_with (at_builtin;go_loud (refine yw _ (by rfl) _ _ 78 (by rfl) w.heap.size 216 (.agg #[.string ⟨#[]⟩,.int .u8 0,.int .i64 0,.string ⟨#[]⟩,.slice none 0 0]) 5 72 Tryz.underlying78 Tryz.info216 (by rfl) (by decide) (c6.alloc _) ⟨w4.heap.size,0,none⟩ 1 1 [.string ⟨P.toArray⟩,.int .u8 x.kind,.int .i64 x.n,.string ⟨x.text.toArray⟩,.slice ia x.items.length ic] (by rfl) (by exact zE w4 #[.string ⟨P.toArray⟩,.int .u8 x.kind,.int .i64 x.n,.string ⟨x.text.toArray⟩,.slice ia x.items.length ic] 216) (by rfl) (by rfl) (YE _ _ _ _ _ _ _) (by unfold maxLen;omega) (by omega) (by have:=c7.out.size;simp;omega) ?_))
       intro v5 w5 d5 f5;have a0 :Ap w4 w5 (.slice (some ⟨g,0,none⟩) (q+1) tc) v5:=Ap.of f5;obtain⟨g0,g1,h9,_⟩:=za d5;subst h9;have a8:Hid (w5.ownsRow w.heap.size 216 5 (.slice g0 ((q+1)+1) g1) (a5++ [(x,Value.slice ia x.items.length ic)]).length (Za (a5++ [(x,Value.slice ia x.items.length ic)]))∧(a5++ [(x,Value.slice ia x.items.length ic)]).map (·.1)=t.take ((q+1)+1)∧(∀p∈a5++ [(x,Value.slice ia x.items.length ic)],It w5 (fun b=>b<w.heap.size∨(Value.slice g0 ((q+1)+1) g1).ownBlock=some b) p)∧Below w.heap.size w w5):=by
        have b4:zj (fun b=>(Value.slice (some ⟨g,0,none⟩) (q+1) tc).ownBlock=some b) wr w5:=by
         have hb:=c8.out.trans (e2.out.mono b3);refine⟨a0.os.trans hb.os,a0.tape.trans hb.tape,a0.output.trans hb.output,j0f hb.size a0.size,fun b b6 e7=> ?_⟩;rw[a0.blk b (j0b b6 hb.size) e7];exact hb.block b b6
        refine⟨?_,?_,fun p hp=> ?_,?_⟩
        ·rw[List.length_append,List.length_singleton,b0,Z5,←HP.out];(first|exact d5|simpa[Za]using d5)
        ·rw[List.map_append,d3.out,List.take_succ_eq_append_getElem e6,←g3.out];rfl
        ·rcases List.mem_append.1 hp with hp|hp
         ·have h0:=g9.out p hp
          rw[b0]at h0;refine Rd.step h0 b4 (fun b e=> .inr e) (fun b e=> ?_);rcases e with e|e
          ·exact .inl (.inl e)
          ·rcases a0.lies b e with e|e
           ·exact .inl (.inr e)
           ·exact .inr (by omega)
         ·rw[List.mem_singleton.1 hp]
          refine Rd.step g8.out (O:=fun b=>(Value.slice (some ⟨g,0,none⟩) (q+1) tc).ownBlock=some b) ⟨a0.os.trans e2.out.os,a0.tape.trans e2.out.tape,a0.output.trans e2.out.output,j0f e2.out.size a0.size,fun b b6 e7=> ?_⟩ (fun b e=> ?_) (fun b e=> ?_)
          ·rw[a0.blk b (by omega) e7];exact e2.out.block b b6
          ·have h2:b<wr.heap.size:=by have h3:=a7.out;rw[b0]at h3;exact(h3.lt b e).2
           omega
          ·rcases e with e|e
           ·have:=c7.out.size;exact .inl (by omega)
           ·rcases a0.lies b e with e|e
            ·have h2:b<wr.heap.size:=by have h3:=a7.out;rw[b0]at h3;exact(h3.lt b e).2
             exact .inl (by omega)
            ·exact .inr (by omega)
        ·refine c7.out.trans ⟨b4.os,b4.tape,b4.output,b4.size,fun b b6=>b4.block b (by have:=c7.out.size;omega) (fun e=> ?_)⟩
         have h3:=a7.out;rw[b0]at h3;have:=(h3.lt b e).1;omega
       clear d5 f5 a0 c6;go_wp2;go_roundw
       case rel=>exact⟨(q+1)+1,a5++ [(x,Value.slice ia x.items.length ic)],r,by omega,by first|(rw[e8.out])|(simp[e8.out]),HR.out,by simp[b0],a8.out.1,a8.out.2.1,a8.out.2.2.1,a8.out.2.2.2⟩
       case measure=>
        have h1:=d7.out;have h2:=e8.out;simp[U1,h2,ByteArray.size];omega
  ·obtain rfl:k=t.length:=by omega
   have f9:s=[]:=by rw[hs,List.drop_of_length_le (j0a _)];rfl
   subst f9;obtain⟨ta,tc,h8,k1,h4,g5,g6⟩:=za b5;subst h8;have HF:Hid (Tr wr (fun b=>b<w.heap.size) (.slice ta a5.length tc) t):=⟨a5,by rw[d4,List.take_length],Rd.of_owns b5 (fun b h=>h),fun p hp=>Rd.step (g4 p hp) (zj.refl (fun _=>False) wr) (fun b e=>e.elim) (fun b e=> .inl (.inl e))⟩
   have c7:=zd hb;clear g5 g6 b5 g4 d4 hs hb h4;go_wp2;go_ret2;exact⟨_,rfl,HF.out,c7.out⟩
