import Derived.Test.YtolgebdmffcemaaGreatDoorQ16
import Derived.Test.YtolgebdmffcemaaGreatDoorQ24
import Derived.Test.YtolgebdmffcemaaGreatDoorQ20
set_option linter.all false
set_option maxHeartbeats 20000000
set_option maxRecDepth 1000000
namespace Go.Proofs.YtolgebdmffcemaaGreatDoor
open Go.RowKit
theorem zl {p:Prop}(h:p):Hid p:=h
def qG (c n:Int):Int:=if c<0 then(-(c+1)) % n else c % n
theorem g9 (c n:Int)(w:World)(h1:0<n)(h2:n≤9223372036854775807)(h3: -9223372036854775808≤c)(h4:c≤9223372036854775807):
  Calls Tryz.prog 79 #[.int .i64 c,.int .i64 n] w fun e w' =>e= .returned (.int .i64 (qG c n))∧w' =w:=by
 by_cases hc:c<0
 ·have HP:Hid (qG c n=(-(c+1)) % n):=by show _=_;rw[qG,if_pos hc]
  go_enter Tryz.func79,Tryz.ntmps79;go_wp2;go_ret;exact⟨zq (by rw[HP.out,←Int.neg_tmod,Int.tmod_eq_emod_of_nonneg (by omega)]),rfl⟩
 ·have HP:Hid (qG c n=c % n):=by show _=_;rw[qG,if_neg hc]
  go_enter Tryz.func79,Tryz.ntmps79;go_wp2;go_ret;exact⟨zq (by rw[HP.out]),rfl⟩
theorem JR (c:Int)(w:World):
  Calls Tryz.prog 117 #[.int .i64 c] w fun e w' =>e= .returned (.int .i64 c)∧w' =w:=by
 go_enter Tryz.func117,Tryz.ntmps117;go_wp2;go_ret;exact⟨rfl,rfl⟩
theorem fm {w:World}{M O:Nat→Prop}{Wb:Nat}{av:Value}{ps:List (Nat×Nat)}{nv tv uv kv:Value}{names:List (Value×List UInt8)}{a2:List (Value×Int)}{last:Nat}(h:LWx w M O Wb av ps nv tv uv kv names a2 last):
  Calls Tryz.prog 44 #[.pointer (some ⟨Wb,0,none⟩)] w fun e w' =>e= .returned (.bool true)∧∃q,w' =w.drewN q:=by
 have c1:=h.c1;have c2:=h.c2;have c3:=h.c3;have c4:=h.c4;obtain⟨na,nc,rfl,d4,b7,b8,b0⟩:=za h.nrow;obtain⟨sa,sc,rfl,d5,b9,c6,b1⟩:=za h.trow;obtain⟨ua,uc,rfl,d6,c7,c8,b2⟩:=za h.urow;obtain⟨ka,kc,rfl,c9,b4,b5,a9⟩:=za h.krow;have HN:=zl h.nl;have HU:=zl h.ul;clear h;unfold maxLen at b7 b9 c7 b4;go_enter Tryz.func44,Tryz.ntmps44;go_wp2;go_loopw [3] (fun i wr=>∃k q:Nat,k≤names.length∧i= .int .i64 k∧wr=w.drewN q) (fun i _=>names.length-(intOf i).toNat)
 case atStart=>exact⟨0,0,Nat.zero_le _,rfl,rfl⟩
 case round=>
  obtain⟨k,q,hk,rfl,rfl⟩:=hrel;by_cases a3:k<names.length
  ·cases na with
   |none=>have:=(b8 rfl).1;omega
   |some ad=>
   cases sa with
   |none=>have:=(c6 rfl).1;omega
   |some a5=>
    obtain⟨g,rfl,_,hg,_,a1⟩:=b0 ad rfl;obtain⟨g2,rfl,_,b3,_,a0⟩:=b1 a5 rfl;have d1:w.cell? ⟨g,k,none⟩=some (names[k]'a3).1:=a1 k _ (by simp[a3]);have d2:w.cell? ⟨g2,k,none⟩=some (.string ⟨(names[k]'a3).2.toArray⟩):=a0 k _ (by simp[a3,S]);obtain⟨n,la,lc,a4,b6,a7,a8⟩:=HN.out _ (j0c a3);rw[a4]at d1;generalize(names[k]'a3).2=m at*;unfold maxLen at a7;clear a1 a0 a4;go_wp2;go_loopw [4] (fun i wr=>∃j q:Nat,j≤n∧i= .int .i64 j∧wr=w.drewN q) (fun i _=>n-(intOf i).toNat)
    case atStart=>exact⟨0,q,Nat.zero_le _,rfl,rfl⟩
    case round=>
     obtain⟨j,q,hj,rfl,rfl⟩:=hrel;by_cases a6:j<n
     ·obtain⟨b,off,rfl,_,_,hc⟩:=a8 (by omega)
      have d3:w.cell? ⟨b,off+j,none⟩=some (.string ⟨m.toArray⟩):=hc j _ (by simp[a6,S]);clear hc;go_wp2;go_quiet (fail)
      go_wp2;go_roundw
      case rel=>exact⟨j+1,_,by omega,by go_num,rfl⟩
      case measure=>simp[intOf];omega
     ·go_wp2
      go_roundw
      case rel=>exact⟨k+1,q,by omega,by go_num,rfl⟩
      case measure=>simp[intOf];omega
  ·go_wp2
   go_loopw [5] (fun i wr=>∃k q:Nat,k≤a2.length∧i= .int .i64 k∧wr=w.drewN q) (fun i _=>a2.length-(intOf i).toNat)
   case atStart=>exact⟨0,q,Nat.zero_le _,rfl,rfl⟩
   case round=>
    obtain⟨k,q,hk,rfl,rfl⟩:=hrel;by_cases a3:k<a2.length
    ·cases ua with
     |none=>have:=(c8 rfl).1;omega
     |some ad=>
     cases ka with
     |none=>have:=(b5 rfl).1;omega
     |some a5=>
      obtain⟨g,rfl,_,hg,_,a1⟩:=b2 ad rfl;obtain⟨g2,rfl,_,b3,_,a0⟩:=a9 a5 rfl;have d1:w.cell? ⟨g,k,none⟩=some (a2[k]'a3).1:=a1 k _ (by simp[a3]);have d2:w.cell? ⟨g2,k,none⟩=some (.int .i64 (a2[k]'a3).2):=a0 k _ (by simp[a3]);obtain⟨n,la,lc,a4,b6,a7,a8⟩:=HU.out _ (j0c a3);rw[a4]at d1;generalize(a2[k]'a3).2=m at*;unfold maxLen at a7;clear a1 a0 a4 b2 a9 b0 b1;go_wp2;go_loopw [6] (fun i wr=>∃j q:Nat,j≤n∧i= .int .i64 j∧wr=w.drewN q) (fun i _=>n-(intOf i).toNat)
      case atStart=>exact⟨0,q,Nat.zero_le _,rfl,rfl⟩
      case round=>
       obtain⟨j,q,hj,rfl,rfl⟩:=hrel;by_cases a6:j<n
       ·obtain⟨b,off,rfl,_,_,hc⟩:=a8 (by omega)
        have d3:w.cell? ⟨b,off+j,none⟩=some (.int .i64 m):=hc j _ (by simp[a6]);clear hc;go_wp2;go_quiet (fail)
        go_wp2;go_roundw
        case rel=>exact⟨j+1,_,by omega,by go_num,rfl⟩
        case measure=>simp[intOf];omega
       ·go_wp2
        go_roundw
        case rel=>exact⟨k+1,q,by omega,by go_num,rfl⟩
        case measure=>simp[intOf];omega
    ·go_wp2
     go_ret;exact⟨rfl,_,rfl⟩
theorem Tryz.info45:(Tryz.prog.info? 45).map (fun i=>(i.zero,i.size,i.bytes))=some (some (.slice none 0 0),1,24):=by kernel_rfl
def X_ (k:Nat):List UInt8:=[109,105,110,101]++List.replicate k 33
theorem JO (k:Nat):X_ (k+1)=X_ k++ [33]:=by rw[X_,List.replicate_succ',←List.append_assoc];rfl
theorem UO (m:Value)(xs:List Value)(k:Nat)(h:k<xs.length):(List.replicate k m++xs.drop k).set k m=List.replicate (k+1) m++xs.drop (k+1):=by
 rw[List.drop_eq_getElem_cons h,List.set_append_right _ _ (by simp)];simp only[List.length_replicate,Nat.sub_self,List.set_cons_zero,List.replicate_succ',List.append_assoc,List.singleton_append]
theorem jv (w:World)(Wb o:Nat)(v:Value)(C:Array Value)(ty:TypeId):∀(j:Nat) (x:Value),C.toList[j]? =some x→((w.setCell ⟨Wb,o,none⟩ v).alloc (.cells C ty)).cell? ((⟨w.heap.size,0,none⟩:Addr).add j)=some x:=by
 have h:=zE (w.setCell ⟨Wb,o,none⟩ v) C ty;rwa[show(w.setCell ⟨Wb,o,none⟩ v).heap.size=w.heap.size from by simp[World.setCell]]at h
theorem Ap.of_set {w w' :World}{Wb k:Nat}{u v v' :Value}{o:Obj}(h:(v'.ownBlock=v.ownBlock∧((w.setCell ⟨Wb,k,none⟩ u).alloc o).grownBy w' v.ownBlock)∨(v'.ownBlock=some (w.heap.size+1)∧((w.setCell ⟨Wb,k,none⟩ u).alloc o).grownBy w' none)):Ap (w.setCell ⟨Wb,k,none⟩ u) w' v v' :=by
 refine Ap.of (o:=o) ?_;rwa[show(w.setCell ⟨Wb,k,none⟩ u).heap.size=w.heap.size from by simp[World.setCell]]
theorem JS {w0 w:World}{M O:Nat→Prop}{Wb:Nat}{av:Value}{ps:List (Nat×Nat)}{nv tv uv kv:Value}{names:List (Value×List UInt8)}{f6:List (Value×Int)}{last:Nat}(hl:LWx w0 M O Wb av ps nv tv uv kv names f6 last)(hM:∀b,M b→b<w0.heap.size)(hb:Below w0.heap.size w0 w)
  {la:Option Addr}{n lc:Nat}{xs:List Value}(c6:w.ownsRow w0.heap.size 9 1 (.slice la n lc) n xs)(hn:n≤100)(j6:last≤1000000)(n9:names.length≤100000000):
  Calls Tryz.prog 121 #[.pointer (some ⟨Wb,0,none⟩),.slice la n lc] w fun e w' =>e= .returned (.tuple #[])∧∃g4 g5 b1,b1.length=names.length+9∧LWx w' (fun b=>M b∨(O b∨g4.ownBlock=some b∨g5.ownBlock=some b)) (fun b=>O b∨g4.ownBlock=some b∨g5.ownBlock=some b) Wb av ps g4 g5 uv kv b1 f6 (last+1)∧zj O w0 w' ∧(∀b,(O b∨g4.ownBlock=some b∨g5.ownBlock=some b)→O b∨w0.heap.size≤b):=by
 have d9:=hl.lt Wb hl.own;have c5:=(hb.cell (p:=⟨Wb,5,none⟩) d9).trans hl.c5;have f5:=(hb.frozen (p:=⟨Wb,5,none⟩) d9).trans (hl.fr 5);have o5:=hb.size;have HL:=zk hl;have HO:=zk c6;have HB:=zk hb;obtain⟨a',c',m4,n8,m0,m1,m2⟩:=za c6;clear hl c6 m1 m2 hb;injection m4 with l3 _ l5
 subst l3 l5;unfold maxLen at m0;go_enter Tryz.func121,Tryz.ntmps121;go_wp2;have j0:zj (fun b=>b=Wb) w (w.setCell ⟨Wb,5,none⟩ (.int .i64 ((last:Int)+1))):=(zj.refl (fun b=>b=Wb) w).setCell (p:=⟨Wb,5,none⟩) (.inl rfl) _;have d5:(w.setCell ⟨Wb,5,none⟩ (.int .i64 ((last:Int)+1))).cell? ⟨Wb,5,none⟩=some (.int .i64 ((last:Int)+1)):=zD _ _ _ _ _ c5;have j2:∀o,o≠5→(w.setCell ⟨Wb,5,none⟩ (.int .i64 ((last:Int)+1))).cell? ⟨Wb,o,none⟩=w.cell? ⟨Wb,o,none⟩:=fun o ho=>z9 _ _ _ _ _ ho
 have j4:∀o,(w.setCell ⟨Wb,5,none⟩ (.int .i64 ((last:Int)+1))).frozen? ⟨Wb,o,none⟩=w.frozen? ⟨Wb,o,none⟩:=fun o=>by rw[World.frozen?_setCell]
 generalize w.setCell ⟨Wb,5,none⟩ (.int .i64 ((last:Int)+1))=W1 at*;have k6:=zk j2;have k7:=zk j4;have b5:=zk j0;clear j2 j4 j0 c5 f5;go_loop [4,5] (fun s i=>∃k:Nat,k≤last+1∧i= .int .i64 k∧s= .string ⟨(X_ k).toArray⟩) (fun _ i=>last+1-(intOf i).toNat)
 case atStart=>exact⟨0,Nat.zero_le _,rfl,rfl⟩
 case round=>
  obtain⟨k,hk,rfl,rfl⟩:=hrel;have h9:(X_ k).length=k+4:=by simp[X_]
  by_cases l7:k<last+1
  ·have l8 :(k:Int)<(last:Int)+1:=by omega
   have q1:¬9223372036854775807<(X_ k).length+1:=by omega
   clear h9;go_wp2;go_round
   case rel=>exact⟨k+1,by omega,by go_num,by rw[yZ [33] #[33] rfl,Z9,←JO]⟩
   case measure=>simp[intOf];omega
  ·obtain rfl:k=last+1:=by omega
   have k9:=zk h9;clear h9;generalize hm:X_ (last+1)=m at*;have n5:Hid (X_ (last+1)=m):=hm;clear hm;go_wp2;have j1:W1.ownsRow w0.heap.size 9 1 (.slice la n lc) n xs:=zh HO.out b5.out (fun g e e2=>by have:=(HO.out.lt g e).1;omega);have o3:=b5.out.size;go_loopw [6] (fun i wr=>∃k:Nat,k≤n∧i= .int .i64 k∧wr.ownsRow w0.heap.size 9 1 (.slice la n lc) n (List.replicate k (S m)++xs.drop k)∧zj (fun b=>(Value.slice la n lc).ownBlock=some b) W1 wr) (fun i _=>n-(intOf i).toNat)
   case atStart=>exact⟨0,Nat.zero_le _,rfl,by simpa using j1,zj.refl _ _⟩
   case round=>
    obtain⟨k,hk,rfl,ho,a9⟩:=hrel;have k3:xs.length=n:=by have:=HO.out.1;omega
    by_cases l7:k<n
    ·obtain⟨a2,c2,i4,_,_,h3,h4⟩:=za ho
     injection i4 with l4 _ l6
     subst l4 l6
     cases la with
     |none=>have:=(h3 rfl).1;omega
     |some ad=>
     obtain⟨g,rfl,n6,n7,j5,b4⟩:=h4 ad rfl;have f0:=j5 k;obtain⟨u0,e0⟩:∃u,wr.cell? ⟨g,k,none⟩=some u:=by
      have h8:k<(List.replicate k (S m)++xs.drop k).length:=by simp only[List.length_append,List.length_replicate,List.length_drop];omega
      exact⟨_,b4 k _ (j0d h8)⟩
     have b2:=Zm ho k (by simp only[List.length_append,List.length_replicate,List.length_drop];omega) (.string ⟨m.toArray⟩);have HS:Hid ((wr.setCell ⟨g,k,none⟩ (.string ⟨m.toArray⟩)).ownsRow w0.heap.size 9 1 (.slice (some ⟨g,0,none⟩) n lc) n (List.replicate (k+1) (S m)++xs.drop (k+1))):=by
      have e:=UO (S m) xs k (by omega);unfold S at e;unfold S at b2;unfold S;rw[e]at b2;exact b2
     have k8:Hid (zj (fun b=>(Value.slice (some ⟨g,0,none⟩) n lc).ownBlock=some b) W1 (wr.setCell ⟨g,k,none⟩ (.string ⟨m.toArray⟩))):=a9.setCell (p:=⟨g,k,none⟩) (.inl rfl) _;clear b2 b4 j5 h3 h4 ho a9 k3;go_wp2;go_roundw
     case rel=>exact⟨k+1,by omega,by go_num,HS.out,k8.out⟩
     case measure=>simp[intOf];omega
    ·obtain rfl:k=n:=by omega
     have j3:xs.drop k=[]:=List.drop_eq_nil_of_le (by omega);rw[j3,List.append_nil]at ho;have d3:∀g,(Value.slice la k lc).ownBlock=some g→w0.heap.size≤g:=fun g e=>(ho.lt g e).1
     have b9:(Value.slice la k lc).ownBlock≠some Wb:=fun e=>by have:=d3 _ e;omega
     have hc:∀o,wr.cell? ⟨Wb,o,none⟩=W1.cell? ⟨Wb,o,none⟩:=fun o=>a9.cell (p:=⟨Wb,o,none⟩) (by show Wb<_;omega) b9
     have g3:∀o,o≠5→wr.cell? ⟨Wb,o,none⟩=w0.cell? ⟨Wb,o,none⟩:=fun o ho=>by rw[hc,k6.out o ho];exact HB.out.cell (p:=⟨Wb,o,none⟩) d9
     have b0:∀{e:TypeId} {size:Nat} {v:Value} {k:Nat} {xs:List Value},w0.ownsRow 0 e size v k xs→(∀g,v.ownBlock=some g→g≠Wb)→wr.ownsRow 0 e size v k xs:=fun d4 hg=>zh (zh (zw d4 HB.out) b5.out (fun g e e2=>hg g e e2)) a9 (fun g e e2=>by have:=d3 g e2;have:=(d4.lt g e).2;omega)
     have f9:KI 45 9 1 2 w0 wr Wb nv tv (names.map (·.1)) (names.map fun p=>S p.2) (S m) (last+1) nv tv [] 0 (.slice la k lc) k:=by
      refine⟨⟨a9.os.trans (b5.out.os.trans HB.out.os),a9.tape.trans (b5.out.tape.trans HB.out.tape),a9.output.trans (b5.out.output.trans HB.out.output),by have:=a9.size;omega,fun j hj m3=> ?_⟩,fun o _ _ h5=>g3 o h5,by rw[g3 1 (by omega)];exact HL.out.c1,by rw[g3 2 (by omega)];exact HL.out.c2,?_,fun o=> ?_,?_,?_,ho,fun g e=> .inl e,fun g e=> .inl e,fun g e e2=>(HL.out.tO g e2).2.2 e,fun g e=>⟨fun e2=>by have:=d3 g e;have:=HL.out.lt g (HL.out.nO g e2).1;omega,fun e2=>by have:=d3 g e;have:=HL.out.lt g (HL.out.tO g e2).1;omega⟩,by simp,d9,fun e=>(HL.out.nO _ e).2 rfl,fun e=>(HL.out.tO _ e).2.1 rfl,by decide⟩
      ·rw[a9.block j (by omega) (fun e=>by have:=d3 j e;omega),b5.out.block j (by omega) (fun e=>m3 (.inr (.inr e)))];exact HB.out.block j hj
      ·rw[hc,d5];rfl
      ·rw[a9.frozen (p:=⟨Wb,o,none⟩) (by show Wb<_;omega) b9,k7.out o,HB.out.frozen (p:=⟨Wb,o,none⟩) d9];exact HL.out.fr o
      ·have:=b0 HL.out.nrow (fun g e=>(HL.out.nO g e).2)
       simpa using this
      ·have:=b0 HL.out.trow (fun g e=>(HL.out.tO g e).2.1)
       simpa using this
     have g6:=zk f9;have i6:w0.heap.size≤wr.heap.size:=f9.kept.size;obtain⟨na,nc,ta,tc,N,T,XN,XT,HN,HT,l1,l2,h1,b8,k1,k2,g1,g2,h7,d6,e8,_⟩:=f9.forms (by simp;omega) (by simp;omega);clear f9 b0 g3 hc a9 ho j3 k3 j1 d5 d3 b9 k2 g2;go_wp2_with (at_builtin;go_loud (refine yw _ (by rfl) _ _ 67 (by rfl) 0 45 (.slice none 0 0) 1 24 Tryz.underlying67 Tryz.info45 (by rfl) (by decide) (e8.alloc _) ⟨wr.heap.size,0,none⟩ 1 1 [.slice la k lc] (by rfl) (by exact zE wr #[.slice la k lc] 45) (by rfl) (by rfl) (by intro u hu;simp at hu;subst hu;rfl) (by unfold maxLen;omega) (by omega) (Nat.zero_le _) ?_))
     intro f7 w1 d4 e3;have a0 :Ap wr w1 (.slice na N nc) f7:=Ap.of e3;rw[←h1.out]at a0;have a5:=g6.out.name a0 (by rw[←HN.out,←h7.out];exact d4);obtain⟨c7,c8,m5,_⟩:=za d4;have e1:w1.cell? ⟨Wb,1,none⟩=some (.slice na N nc):=by
      rw[World.cell?_of_block (a:=⟨Wb,1,none⟩) (a0.blk Wb (by omega) g6.out.nW')];exact k1
     have q1:w1.frozen? ⟨Wb,1,none⟩=false:=by
      rw[World.frozen?_of_block (a:=⟨Wb,1,none⟩) (a0.blk Wb (by omega) g6.out.nW')];exact g1
     subst m5;have b6:=zk a5;have o4:w0.heap.size≤w1.heap.size:=j0f i6 a0.size;have e9:(w1.setCell ⟨Wb,1,none⟩ (.slice c7 (N+1) c8)).ownsRow 0 9 1 (.slice ta T tc) T XT:=by
      have:=a5.trow;rwa[←HT.out,←d6.out,b8.out]at this
     have k2:w1.cell? ⟨Wb,2,none⟩=some (.slice ta T tc):=by
      have:=a5.c2;rwa[b8.out,z9 _ _ _ _ _ (by omega)]at this
     have g2:w1.frozen? ⟨Wb,2,none⟩=false:=by
      have:=a5.fr 2;rwa[World.frozen?_setCell]at this
     clear a5 e3 a0 d4 e8 k1 g1;go_wp2_with (at_builtin;go_loud (refine yw _ (by rfl) _ _ 45 (by rfl) 0 9 (.string ⟨#[]⟩) 1 16 Tryz.underlying45 Tryz.info9 (by rfl) (by decide) (e9.alloc _) ⟨w1.heap.size,0,none⟩ 1 1 [.string ⟨m.toArray⟩] (by rfl) (by exact jv w1 Wb 1 (.slice c7 (N+1) c8) #[.string ⟨m.toArray⟩] 9) (by rfl) (by rfl) (by intro u hu;simp at hu;subst hu;rfl) (by unfold maxLen;omega) (by omega) (Nat.zero_le _) ?_))
     intro f8 w2 i0 e4;have a3 :Ap (w1.setCell ⟨Wb,1,none⟩ (.slice c7 (N+1) c8)) w2 (.slice ta T tc) f8:=Ap.of_set e4;rw[←b8.out]at a3;have d7:=b6.out.mark a3 (by rw[←HT.out,←d6.out];exact i0);obtain⟨k4,k5,i4,_⟩:=za i0;have a7:=a3.blk Wb (by have:=b6.out.kept.size;omega) b6.out.tW';have e2:w2.cell? ⟨Wb,2,none⟩=some (.slice ta T tc):=by
      rw[World.cell?_of_block (a:=⟨Wb,2,none⟩) a7,z9 _ _ _ _ _ (by omega)];exact k2
     have q2:w2.frozen? ⟨Wb,2,none⟩=false:=by
      rw[World.frozen?_of_block (a:=⟨Wb,2,none⟩) a7,World.frozen?_setCell];exact g2
     subst i4;have g7:=zk d7;clear d7 e4 a3 i0 e9 k2 g2 a7 e1 q1;go_wp2;have l0:=k9.out;clear e2 q2;generalize w2.setCell ⟨Wb,2,none⟩ (.slice k4 (T+1) k5)=w3 at*;go_loopw [1,7] (fun l i wr=>∃(j:Nat) (f3:Option Addr) (p f4:Nat) (f7 f8:Value) (vals:List Value),j≤8∧i= .int .i64 j∧l= .slice f3 p f4∧p≤100+j∧vals.length=j+1∧KI 45 9 1 2 w0 wr Wb nv tv (names.map (·.1)) (names.map fun p=>S p.2) (S m) (last+1) f7 f8 vals (j+1) (.slice f3 p f4) p) (fun _ i _=>8-(intOf i).toNat)
     case atStart=>exact⟨0,la,k,lc,_,_,_,by omega,rfl,rfl,by omega,rfl,g7.out⟩
     case round=>
      obtain⟨j,f3,p,f4,f7,f8,vals,hj,rfl,rfl,hp,i5,c9⟩:=hrel;have h2:=zk i5;by_cases l9:j<8
      ·have g9:=zk c9
       have j9:w0.heap.size≤wr.heap.size:=c9.kept.size;obtain⟨XL,i9⟩:∃XL,Hid (XL=List.replicate p (S m)):=⟨_,(rfl:_=_)⟩
       have j7:wr.ownsRow w0.heap.size 9 1 (.slice f3 p f4) p XL:=by rw[i9.out];exact c9.lrow
       clear c9 i5;go_wp2_with (at_builtin;go_loud (refine yw _ (by rfl) _ _ 45 (by rfl) w0.heap.size 9 (.string ⟨#[]⟩) 1 16 Tryz.underlying45 Tryz.info9 (by rfl) (by decide) (j7.alloc _) ⟨wr.heap.size,0,none⟩ 1 1 [.string ⟨m.toArray⟩] (by rfl) (by exact zE wr #[.string ⟨m.toArray⟩] 9) (by rfl) (by rfl) (by intro u hu;simp at hu;subst hu;rfl) (by unfold maxLen;omega) (by omega) (by simp;omega) ?_))
       intro n0 w4 i1 e5;have b3 :Ap wr w4 (.slice f3 p f4) n0:=Ap.of e5;have g0:=g9.out.more b3 (by rw[List.replicate_succ',←i9.out];exact i1);obtain⟨i7,i8,m6,_⟩:=za i1;subst m6;have h0:=zk g0;have m9:w0.heap.size≤w4.heap.size:=g0.kept.size;obtain⟨na,nc,ta,tc,N,T,XN,XT,HN,HT,l1,l2,h1,b8,k1,k2,g1,g2,h7,d6,e8,_⟩:=g0.forms (by have:=h2.out;simp;omega) (by simp;omega);clear g0 e5 b3 i1 j7 k2 g2;go_wp2_with (at_builtin;go_loud (refine yw _ (by rfl) _ _ 67 (by rfl) 0 45 (.slice none 0 0) 1 24 Tryz.underlying67 Tryz.info45 (by rfl) (by decide) (e8.alloc _) ⟨w4.heap.size,0,none⟩ 1 1 [.slice i7 (p+1) i8] (by rfl) (by exact zE w4 #[.slice i7 (p+1) i8] 45) (by rfl) (by rfl) (by intro u hu;simp at hu;subst hu;rfl) (by unfold maxLen;omega) (by omega) (Nat.zero_le _) ?_))
       intro n3 w5 i2 e6;have a1 :Ap w4 w5 (.slice na N nc) n3:=Ap.of e6;rw[←h1.out]at a1;have a6:=h0.out.name a1 (by rw[←HN.out,←h7.out];exact i2);obtain⟨c7,c8,m7,_⟩:=za i2;have e1:w5.cell? ⟨Wb,1,none⟩=some (.slice na N nc):=by
        rw[World.cell?_of_block (a:=⟨Wb,1,none⟩) (a1.blk Wb (by omega) h0.out.nW')];exact k1
       have q1:w5.frozen? ⟨Wb,1,none⟩=false:=by
        rw[World.frozen?_of_block (a:=⟨Wb,1,none⟩) (a1.blk Wb (by omega) h0.out.nW')];exact g1
       subst m7;have b7:=zk a6;have e9:(w5.setCell ⟨Wb,1,none⟩ (.slice c7 (N+1) c8)).ownsRow 0 9 1 (.slice ta T tc) T XT:=by
        have:=a6.trow;rwa[←HT.out,←d6.out,b8.out]at this
       have k2:w5.cell? ⟨Wb,2,none⟩=some (.slice ta T tc):=by
        have:=a6.c2;rwa[b8.out,z9 _ _ _ _ _ (by omega)]at this
       have g2:w5.frozen? ⟨Wb,2,none⟩=false:=by
        have:=a6.fr 2;rwa[World.frozen?_setCell]at this
       clear a6 e6 a1 i2 e8 k1 g1;go_wp2_with (at_builtin;go_loud (refine yw _ (by rfl) _ _ 45 (by rfl) 0 9 (.string ⟨#[]⟩) 1 16 Tryz.underlying45 Tryz.info9 (by rfl) (by decide) (e9.alloc _) ⟨w5.heap.size,0,none⟩ 1 1 [.string ⟨m.toArray⟩] (by rfl) (by exact jv w5 Wb 1 (.slice c7 (N+1) c8) #[.string ⟨m.toArray⟩] 9) (by rfl) (by rfl) (by intro u hu;simp at hu;subst hu;rfl) (by unfold maxLen;omega) (by omega) (Nat.zero_le _) ?_))
       intro n4 w6 i3 e7;have a4 :Ap (w5.setCell ⟨Wb,1,none⟩ (.slice c7 (N+1) c8)) w6 (.slice ta T tc) n4:=Ap.of_set e7;rw[←b8.out]at a4;have d8:=b7.out.mark a4 (by rw[←HT.out,←d6.out];exact i3);obtain⟨k4,k5,m8,_⟩:=za i3;have a8:=a4.blk Wb (by have:=b7.out.kept.size;omega) b7.out.tW';have e2:w6.cell? ⟨Wb,2,none⟩=some (.slice ta T tc):=by
        rw[World.cell?_of_block (a:=⟨Wb,2,none⟩) a8,z9 _ _ _ _ _ (by omega)];exact k2
       have q2:w6.frozen? ⟨Wb,2,none⟩=false:=by
        rw[World.frozen?_of_block (a:=⟨Wb,2,none⟩) a8,World.frozen?_setCell];exact g2
       subst m8;have g8:=zk d8;clear d8 e7 a4 i3 e9 k2 g2 a8 e1 q1;go_wp2;go_roundw
       case rel=>exact⟨j+1,i7,p+1,i8,_,_,_,by omega,by go_num,rfl,by omega,by simp[h2.out],g8.out⟩
       case measure=>simp[intOf];omega
      ·obtain rfl:j=8:=by omega
       have g9:=zk c9;clear c9 i5;go_wp2;go_end0
       have j8:vals.length=9:=h2.out;have hf:=KI.fin HL.out hM (by rw[j8];exact g9.out);exact⟨rfl,f7,f8,_,by simp[j8],hf.1,hf.2.1,hf.2.2⟩
theorem Tryz.info39:(Tryz.prog.info? 39).map (fun i=>(i.zero,i.size,i.bytes))=some (some (.slice none 0 0),1,24):=by kernel_rfl
theorem KV {P:Program}{w:World}{ops:Array Oper}{o:Oper}{a:Act}{K:Act→World→Prop}{Q:Exit→Act→World→Prop}{E:Prop}
  (hg:o.guard=none)(s x:Operand)(t:TypeId)(a4:o.op=Op.call {callee:=Callee.builtin Builtin.append,args:= #[s,x],argTypes:= #[t,t]})
  (base:Nat)(e:TypeId)(z:Value)(size a0:Nat)(h1:P.underlying t=some (.slice e))(h2:(P.info? e).map (fun i=>(i.zero,i.size,i.bytes))=some (some z,size,a0))(h6:z.cells.size=size)(h7:0<size)
  (v:Value)(n:Nat)(xs:List Value)(hs:a.eval s=v)(a2:w.ownsRow base e size v n xs)(ad:Addr)(m c:Nat)(a1:List Value)(hx:a.eval x= .slice (some ad) m c)(hn:a1.length=m*size)
  (hc:∀j u,a1[j]? =some u→w.cell? (ad.add j)=some u)(a3:∀u∈a1,u.oneCell' =true)(b1:n+m≤maxLen)(b2:(n+m)*a0≤140737488355328)(hB:base≤w.heap.size)
  (hK:∀v' w',w'.ownsRow base e size v' (n+m) (xs++a1)→((v'.ownBlock=v.ownBlock∧w.grownBy w' v.ownBlock)∨(v'.ownBlock=some w.heap.size∧w.grownBy w' none))→K (a.put o.dst v') w'):
  if Region.wanted o (yielded ops a.tmps)=true then Oper.wp P o a w K Q else E:=by
 obtain⟨i0,hi,a5,a6,a7⟩:=info_parts h2;obtain⟨v',w',hr,h3,h4⟩:=qc (P:=P) w base t o.type e i0 z size a0 h1 hi a5 a6 a7 h6 h7 v n xs a2 ad m c a1 hn hc a3 b1 b2 hB;exact XP hg s x t t a4 v (.slice (some ad) m c) hs hx hr (hK v' w' h3 h4)
theorem KM {w0 w:World}{M O:Nat→Prop}{Wb:Nat}{av:Value}{ps:List (Nat×Nat)}{nv tv uv kv:Value}{names:List (Value×List UInt8)}{a5:List (Value×Int)}{last:Nat}(hl:LWx w0 M O Wb av ps nv tv uv kv names a5 last)(hM:∀b,M b→b<w0.heap.size)(hb:Below w0.heap.size w0 w)
  {la:Option Addr}{n lc:Nat}{xs:List Value}(d3:w.ownsRow w0.heap.size 3 1 (.slice la n lc) n xs)(hn:n≤100)(j9:last≤1000000)(n8:a5.length≤100000000):
  Calls Tryz.prog 129 #[.pointer (some ⟨Wb,0,none⟩),.slice la n lc] w fun e w' =>e= .returned (.tuple #[])∧∃h0 g9 b9,b9.length=a5.length+9∧LWx w' (fun b=>M b∨(O b∨h0.ownBlock=some b∨g9.ownBlock=some b)) (fun b=>O b∨h0.ownBlock=some b∨g9.ownBlock=some b) Wb av ps nv tv h0 g9 names b9 (last+1)∧zj O w0 w' ∧(∀b,(O b∨h0.ownBlock=some b∨g9.ownBlock=some b)→O b∨w0.heap.size≤b):=by
 have e7:=hl.lt Wb hl.own;have c5:=(hb.cell (p:=⟨Wb,5,none⟩) e7).trans hl.c5;have f5:=(hb.frozen (p:=⟨Wb,5,none⟩) e7).trans (hl.fr 5);have o4:=hb.size;have HL:=zk hl;have HO:=zk d3;have HB:=zk hb;obtain⟨a',c',m4,n7,m0,m1,m2⟩:=za d3;clear hl d3 m1 m2 hb;injection m4 with l5 _ l7
 subst l5 l7;unfold maxLen at m0;go_enter Tryz.func129,Tryz.ntmps129;go_wp2;have j3:zj (fun b=>b=Wb) w (w.setCell ⟨Wb,5,none⟩ (.int .i64 ((last:Int)+1))):=(zj.refl (fun b=>b=Wb) w).setCell (p:=⟨Wb,5,none⟩) (.inl rfl) _;have d5:(w.setCell ⟨Wb,5,none⟩ (.int .i64 ((last:Int)+1))).cell? ⟨Wb,5,none⟩=some (.int .i64 ((last:Int)+1)):=zD _ _ _ _ _ c5;have j5:∀o,o≠5→(w.setCell ⟨Wb,5,none⟩ (.int .i64 ((last:Int)+1))).cell? ⟨Wb,o,none⟩=w.cell? ⟨Wb,o,none⟩:=fun o ho=>z9 _ _ _ _ _ ho
 have j7:∀o,(w.setCell ⟨Wb,5,none⟩ (.int .i64 ((last:Int)+1))).frozen? ⟨Wb,o,none⟩=w.frozen? ⟨Wb,o,none⟩:=fun o=>by rw[World.frozen?_setCell]
 generalize w.setCell ⟨Wb,5,none⟩ (.int .i64 ((last:Int)+1))=W1 at*;have k7:=zk j5;have k8:=zk j7;have c6:=zk j3;clear j5 j7 j3 c5 f5;obtain⟨L1,i2⟩:∃L1:Int,L1=(last:Int)+1:=⟨_,rfl⟩
 rw[←i2]at d5;have l0:1≤L1:=by omega
 have l1:L1≤1000001:=by omega
 have g5:=zk i2;have m8:IntKind.i64.wrap (-L1)= -L1:=by rw[IntKind.wrap_i64];omega
 clear i2;obtain⟨m,hm⟩:∃m:Int, -L1=m:=⟨_,rfl⟩
 have HM:=zk hm;clear hm;have j4:W1.ownsRow w0.heap.size 3 1 (.slice la n lc) n xs:=zh HO.out c6.out (fun g e e2=>by have:=(HO.out.lt g e).1;omega);have n9:=c6.out.size;go_loopw [4] (fun i wr=>∃k:Nat,k≤n∧i= .int .i64 k∧wr.ownsRow w0.heap.size 3 1 (.slice la n lc) n (List.replicate k (vr m)++xs.drop k)∧zj (fun b=>(Value.slice la n lc).ownBlock=some b) W1 wr) (fun i _=>n-(intOf i).toNat)
 case atStart=>exact⟨0,Nat.zero_le _,rfl,by simpa using j4,zj.refl _ _⟩
 case round=>
  obtain⟨k,hk,rfl,ho,a8⟩:=hrel;have k6:xs.length=n:=by have:=HO.out.1;omega
  have l4:(Value.slice la n lc).ownBlock≠some Wb:=fun e=>by have:=(ho.lt _ e).1;omega
  have e5:wr.cell? ⟨Wb,5,none⟩=some (.int .i64 L1):=(a8.cell (p:=⟨Wb,5,none⟩) (show Wb<_ by omega) l4).trans d5;by_cases n6:k<n
  ·obtain⟨a2,c2,f8,_,_,h3,h4⟩:=za ho
   injection f8 with l6 _ l8
   subst l6 l8
   cases la with
   |none=>have:=(h3 rfl).1;omega
   |some ad=>
   obtain⟨g,rfl,n4,n5,j8,b8⟩:=h4 ad rfl;have f0:=j8 k;obtain⟨u0,e0⟩:∃u,wr.cell? ⟨g,k,none⟩=some u:=by
    have i4:k<(List.replicate k (vr m)++xs.drop k).length:=by simp only[List.length_append,List.length_replicate,List.length_drop];omega
    exact⟨_,b8 k _ (j0d i4)⟩
   have d4:=Zm ho k (by simp only[List.length_append,List.length_replicate,List.length_drop];omega) (.int .i64 (-L1));have HS:Hid ((wr.setCell ⟨g,k,none⟩ (.int .i64 (-L1))).ownsRow w0.heap.size 3 1 (.slice (some ⟨g,0,none⟩) n lc) n (List.replicate (k+1) (vr m)++xs.drop (k+1))):=by
    have e:=UO (vr m) xs k (by omega);rw[HM.out]at d4⊢;rw[←e];exact d4
   have k9:Hid (zj (fun b=>(Value.slice (some ⟨g,0,none⟩) n lc).ownBlock=some b) W1 (wr.setCell ⟨g,k,none⟩ (.int .i64 (-L1)))):=a8.setCell (p:=⟨g,k,none⟩) (.inl rfl) _;clear d4 b8 j8 h3 h4 ho a8 k6;go_wp2;go_roundw
   case rel=>exact⟨k+1,by omega,by go_num,HS.out,k9.out⟩
   case measure=>simp[intOf];omega
  ·obtain rfl:k=n:=by omega
   have j6:xs.drop k=[]:=List.drop_eq_nil_of_le (by omega);rw[j6,List.append_nil]at ho;have d6:∀g,(Value.slice la k lc).ownBlock=some g→w0.heap.size≤g:=fun g e=>(ho.lt g e).1
   have c9:(Value.slice la k lc).ownBlock≠some Wb:=fun e=>by have:=d6 _ e;omega
   have hc:∀o,wr.cell? ⟨Wb,o,none⟩=W1.cell? ⟨Wb,o,none⟩:=fun o=>a8.cell (p:=⟨Wb,o,none⟩) (by show Wb<_;omega) c9
   have g7:∀o,o≠5→wr.cell? ⟨Wb,o,none⟩=w0.cell? ⟨Wb,o,none⟩:=fun o ho=>by rw[hc,k7.out o ho];exact HB.out.cell (p:=⟨Wb,o,none⟩) e7
   have b1:∀{e:TypeId} {size:Nat} {v:Value} {k:Nat} {xs:List Value},w0.ownsRow 0 e size v k xs→(∀g,v.ownBlock=some g→g≠Wb)→wr.ownsRow 0 e size v k xs:=fun d7 hg=>zh (zh (zw d7 HB.out) c6.out (fun g e e2=>hg g e e2)) a8 (fun g e e2=>by have:=d6 g e2;have:=(d7.lt g e).2;omega)
   have a9:KI 39 3 3 4 w0 wr Wb uv kv (a5.map (·.1)) (a5.map fun p=>vr p.2) (vr m) (last+1) uv kv [] 0 (.slice la k lc) k:=by
    refine⟨⟨a8.os.trans (c6.out.os.trans HB.out.os),a8.tape.trans (c6.out.tape.trans HB.out.tape),a8.output.trans (c6.out.output.trans HB.out.output),by have:=a8.size;omega,fun j hj m3=> ?_⟩,fun o _ _ h5=>g7 o h5,by rw[g7 3 (by omega)];exact HL.out.c3,by rw[g7 4 (by omega)];exact HL.out.c4,?_,fun o=> ?_,?_,?_,ho,fun g e=> .inl e,fun g e=> .inl e,fun g e e2=>(HL.out.kO g e2).2.2.2.2 e,fun g e=>⟨fun e2=>by have:=d6 g e;have:=HL.out.lt g (HL.out.uO g e2).1;omega,fun e2=>by have:=d6 g e;have:=HL.out.lt g (HL.out.kO g e2).1;omega⟩,by simp,e7,fun e=>(HL.out.uO _ e).2.1 rfl,fun e=>(HL.out.kO _ e).2.1 rfl,by decide⟩
    ·rw[a8.block j (by omega) (fun e=>by have:=d6 j e;omega),c6.out.block j (by omega) (fun e=>m3 (.inr (.inr e)))];exact HB.out.block j hj
    ·rw[hc,d5,g5.out];rfl
    ·rw[a8.frozen (p:=⟨Wb,o,none⟩) (by show Wb<_;omega) c9,k8.out o,HB.out.frozen (p:=⟨Wb,o,none⟩) e7];exact HL.out.fr o
    ·have:=b1 HL.out.urow (fun g e=>(HL.out.uO g e).2.1)
     simpa using this
    ·have:=b1 HL.out.krow (fun g e=>(HL.out.kO g e).2.1)
     simpa[vr]using this
   have b6:=zk a9;have i7:w0.heap.size≤wr.heap.size:=a9.kept.size;obtain⟨na,nc,ta,tc,N,T,XN,XT,HN,HT,l2,l3,h9,b4,k1,k2,g1,g2,i1,e4,f6,_⟩:=a9.forms (by simp;omega) (by simp;omega);clear a9 b1 g7 hc a8 ho j6 k6 j4 d5 d6 c9 k2 g2;go_wp2_with (at_builtin;go_loud (refine yw _ (by rfl) _ _ 68 (by rfl) 0 39 (.slice none 0 0) 1 24 Tryz.underlying68 Tryz.info39 (by rfl) (by decide) (f6.alloc _) ⟨wr.heap.size,0,none⟩ 1 1 [.slice la k lc] (by rfl) (by exact zE wr #[.slice la k lc] 39) (by rfl) (by rfl) (by intro u hu;simp at hu;subst hu;rfl) (by unfold maxLen;omega) (by omega) (Nat.zero_le _) ?_))
   intro g3 w1 d7 e8;have a3 :Ap wr w1 (.slice na N nc) g3:=Ap.of e8;rw[←h9.out]at a3;have a6:=b6.out.name a3 (by rw[←HN.out,←i1.out];exact d7);obtain⟨b2,b3,m5,_⟩:=za d7;have e1:w1.cell? ⟨Wb,3,none⟩=some (.slice na N nc):=by
    rw[World.cell?_of_block (a:=⟨Wb,3,none⟩) (a3.blk Wb (by omega) b6.out.nW')];exact k1
   have q1:w1.frozen? ⟨Wb,3,none⟩=false:=by
    rw[World.frozen?_of_block (a:=⟨Wb,3,none⟩) (a3.blk Wb (by omega) b6.out.nW')];exact g1
   subst m5;have c7:=zk a6;have o3:w0.heap.size≤w1.heap.size:=j0f i7 a3.size;have f7:(w1.setCell ⟨Wb,3,none⟩ (.slice b2 (N+1) b3)).ownsRow 0 3 1 (.slice ta T tc) T XT:=by
    have:=a6.trow;rwa[←HT.out,←e4.out,b4.out]at this
   have k2:w1.cell? ⟨Wb,4,none⟩=some (.slice ta T tc):=by
    have:=a6.c2;rwa[b4.out,z9 _ _ _ _ _ (by omega)]at this
   have g2:w1.frozen? ⟨Wb,4,none⟩=false:=by
    have:=a6.fr 4;rwa[World.frozen?_setCell]at this
   have e5:w1.cell? ⟨Wb,5,none⟩=some (.int .i64 L1):=by
    have:=a6.c5;rw[z9 _ _ _ _ _ (by omega)]at this;rw[g5.out];simpa using this
   clear a6 e8 a3 d7 f6 k1 g1;go_wp2;have s4:(w1.setCell ⟨Wb,3,none⟩ (.slice b2 (N+1) b3)).cell? ⟨Wb,4,none⟩=some (.slice ta T tc):=(z9 _ _ _ _ _ (by omega)).trans k2;have s5:(w1.setCell ⟨Wb,3,none⟩ (.slice b2 (N+1) b3)).cell? ⟨Wb,5,none⟩=some (.int .i64 L1):=(z9 _ _ _ _ _ (by omega)).trans e5;have sf:(w1.setCell ⟨Wb,3,none⟩ (.slice b2 (N+1) b3)).frozen? ⟨Wb,4,none⟩=false:=by rw[World.frozen?_setCell];exact g2
   generalize w1.setCell ⟨Wb,3,none⟩ (.slice b2 (N+1) b3)=wS at*;have i3:Wb<wS.heap.size:=by have:=c7.out.kept.size;omega
   have r4:∀o,(wS.alloc o).cell? ⟨Wb,4,none⟩=some (.slice ta T tc):=fun o=>by rw[World.cell?_alloc_past _ _ _ (by omega)];exact s4
   have r5:∀o,(wS.alloc o).cell? ⟨Wb,5,none⟩=some (.int .i64 L1):=fun o=>by rw[World.cell?_alloc_past _ _ _ (by omega)];exact s5
   have d8:Hid (∀o w2 v2,((v2.ownBlock=(Value.slice ta T tc).ownBlock∧(wS.alloc o).drew.grownBy w2 (Value.slice ta T tc).ownBlock)∨(v2.ownBlock=some (wS.alloc o).drew.heap.size∧(wS.alloc o).drew.grownBy w2 none))→Ap wS w2 (.slice ta T tc) v2):=fun o w2 v2 h=>Ap.of (o:=o) (by
    rcases h with⟨h1,h2⟩|⟨h1,h2⟩
    ·exact .inl ⟨h1,⟨h2.os,h2.tape,h2.output,h2.size,h2.block⟩⟩
    ·exact .inr ⟨by rw[h1];show some (wS.alloc o).heap.size=_;simp,⟨h2.os,h2.tape,h2.output,h2.size,h2.block⟩⟩)
   have e6:(Value.slice ta T tc).ownBlock≠some Wb:=by rw[←b4.out];exact c7.out.tW'
   have f4:∀j u,[Value.int .i64 (-L1)][j]? =some u→(wS.alloc (.cells #[.int .i64 (-L1)] 3)).drew.cell? ((⟨wS.heap.size,0,none⟩:Addr).add j)=some u:=fun j u hu=>zE wS #[.int .i64 (-L1)] 3 j u hu
   have d9:=zk sf;have e3:=zk s4;clear k2 g2 e1 q1 e5;go_region_law ((refine KV (by rfl) _ _ 39 (by rfl) 0 3 (.int .i64 0) 1 8 Tryz.underlying39 yB (by rfl) (by decide) (.slice ta T tc) T XT (by rfl) (by exact f7.alloc _) ⟨wS.heap.size,0,none⟩ 1 1 [.int .i64 (-L1)] (by rfl) (by rfl) (by with_reducible exact f4) (by intro u hu;simp at hu;subst hu;rfl) (by unfold maxLen;omega) (by omega) (Nat.zero_le _) ?_;intro g4 w2 b5 b0;obtain⟨j0,j1,f8,_⟩:=za b5;subst f8;have a0 :=d8.out _ _ _ b0;have a1:=a0.blk Wb i3 e6;have e2:w2.cell? ⟨Wb,4,none⟩=some (.slice ta T tc):=(World.cell?_of_block (a:=⟨Wb,4,none⟩) a1).trans e3.out;have q2:w2.frozen? ⟨Wb,4,none⟩=false:=(World.frozen?_of_block (a:=⟨Wb,4,none⟩) a1).trans d9.out))
   all_goals
    rw[HM.out]at b5;rw[←b4.out]at a0;have h8:=zk (c7.out.mark a0 (by rw[←HT.out,←e4.out];exact b5));clear b0 a0 b5 f7 a1 f4 e2 q2 s4 s5 sf r4 r5 d8 e6 d9 e3;generalize w2.setCell ⟨Wb,4,none⟩ (.slice j0 (T+1) j1)=w3 at*;go_wp2;go_loopw [1,5] (fun l i wr=>∃(j:Nat) (f9:Option Addr) (p g0:Nat) (g3 g4:Value) (vals:List Value),j≤8∧i= .int .i64 j∧l= .slice f9 p g0∧p≤100+j∧vals.length=j+1∧KI 39 3 3 4 w0 wr Wb uv kv (a5.map (·.1)) (a5.map fun p=>vr p.2) (vr m) (last+1) g3 g4 vals (j+1) (.slice f9 p g0) p) (fun _ i _=>8-(intOf i).toNat)
    case atStart=>exact⟨0,la,k,lc,_,_,_,by omega,rfl,rfl,by omega,rfl,h8.out⟩
    case round=>
     obtain⟨j,f9,p,g0,g3,g4,vals,hj,rfl,rfl,hp,i6,a9⟩:=hrel;have i0:=zk i6;by_cases l9:j<8
     ·have b6:=zk a9
      have k5:w0.heap.size≤wr.heap.size:=a9.kept.size;obtain⟨XL,j2⟩:∃XL,Hid (XL=List.replicate p (vr m)):=⟨_,(rfl:_=_)⟩
      have k3:wr.ownsRow w0.heap.size 3 1 (.slice f9 p g0) p XL:=by rw[j2.out];exact a9.lrow
      have e5:wr.cell? ⟨Wb,5,none⟩=some (.int .i64 L1):=by have:=b6.out.c5;rw[g5.out];simpa using this
      clear a9 i6;go_wp2_with (at_builtin;go_loud (refine yw _ (by rfl) _ _ 39 (by rfl) w0.heap.size 3 (.int .i64 0) 1 8 Tryz.underlying39 yB (by rfl) (by decide) (k3.alloc _) ⟨wr.heap.size,0,none⟩ 1 1 [.int .i64 (-L1)] (by rfl) (by exact zE wr #[.int .i64 (-L1)] 3) (by rfl) (by rfl) (by intro u hu;simp at hu;subst hu;rfl) (by unfold maxLen;omega) (by omega) (by simp;omega) ?_))
      intro n0 w4 g8 e9;rw[HM.out]at g8;have b7 :Ap wr w4 (.slice f9 p g0) n0:=Ap.of e9;have g6:=b6.out.more b7 (by rw[List.replicate_succ',←j2.out];exact g8);obtain⟨i8,i9,m6,_⟩:=za g8;subst m6;have h7:=zk g6;have m9:w0.heap.size≤w4.heap.size:=g6.kept.size;obtain⟨na,nc,ta,tc,N,T,XN,XT,HN,HT,l2,l3,h9,b4,k1,k2,g1,g2,i1,e4,f6,_⟩:=g6.forms (by have:=i0.out;simp;omega) (by simp;omega);clear g6 e9 b7 g8 k3 k2 g2;go_wp2_with (at_builtin;go_loud (refine yw _ (by rfl) _ _ 68 (by rfl) 0 39 (.slice none 0 0) 1 24 Tryz.underlying68 Tryz.info39 (by rfl) (by decide) (f6.alloc _) ⟨w4.heap.size,0,none⟩ 1 1 [.slice i8 (p+1) i9] (by rfl) (by exact zE w4 #[.slice i8 (p+1) i9] 39) (by rfl) (by rfl) (by intro u hu;simp at hu;subst hu;rfl) (by unfold maxLen;omega) (by omega) (Nat.zero_le _) ?_))
      intro n3 w5 i5 f3;have a4 :Ap w4 w5 (.slice na N nc) n3:=Ap.of f3;rw[←h9.out]at a4;have a7:=h7.out.name a4 (by rw[←HN.out,←i1.out];exact i5);obtain⟨b2,b3,m7,_⟩:=za i5;have e1:w5.cell? ⟨Wb,3,none⟩=some (.slice na N nc):=by
       rw[World.cell?_of_block (a:=⟨Wb,3,none⟩) (a4.blk Wb (by omega) h7.out.nW')];exact k1
      have q1:w5.frozen? ⟨Wb,3,none⟩=false:=by
       rw[World.frozen?_of_block (a:=⟨Wb,3,none⟩) (a4.blk Wb (by omega) h7.out.nW')];exact g1
      subst m7;have c8:=zk a7;have f7:(w5.setCell ⟨Wb,3,none⟩ (.slice b2 (N+1) b3)).ownsRow 0 3 1 (.slice ta T tc) T XT:=by
       have:=a7.trow;rwa[←HT.out,←e4.out,b4.out]at this
      have k2:w5.cell? ⟨Wb,4,none⟩=some (.slice ta T tc):=by
       have:=a7.c2;rwa[b4.out,z9 _ _ _ _ _ (by omega)]at this
      have g2:w5.frozen? ⟨Wb,4,none⟩=false:=by
       have:=a7.fr 4;rwa[World.frozen?_setCell]at this
      have e5:w5.cell? ⟨Wb,5,none⟩=some (.int .i64 L1):=by
       have:=a7.c5;rw[z9 _ _ _ _ _ (by omega)]at this;rw[g5.out];simpa using this
      clear a7 f3 a4 i5 f6 k1 g1;go_wp2;have s4:(w5.setCell ⟨Wb,3,none⟩ (.slice b2 (N+1) b3)).cell? ⟨Wb,4,none⟩=some (.slice ta T tc):=(z9 _ _ _ _ _ (by omega)).trans k2;have s5:(w5.setCell ⟨Wb,3,none⟩ (.slice b2 (N+1) b3)).cell? ⟨Wb,5,none⟩=some (.int .i64 L1):=(z9 _ _ _ _ _ (by omega)).trans e5;have sf:(w5.setCell ⟨Wb,3,none⟩ (.slice b2 (N+1) b3)).frozen? ⟨Wb,4,none⟩=false:=by rw[World.frozen?_setCell];exact g2
      generalize w5.setCell ⟨Wb,3,none⟩ (.slice b2 (N+1) b3)=wS at*;have i3:Wb<wS.heap.size:=by have:=c8.out.kept.size;omega
      have r4:∀o,(wS.alloc o).cell? ⟨Wb,4,none⟩=some (.slice ta T tc):=fun o=>by rw[World.cell?_alloc_past _ _ _ (by omega)];exact s4
      have r5:∀o,(wS.alloc o).cell? ⟨Wb,5,none⟩=some (.int .i64 L1):=fun o=>by rw[World.cell?_alloc_past _ _ _ (by omega)];exact s5
      have d8:Hid (∀o w2 v2,((v2.ownBlock=(Value.slice ta T tc).ownBlock∧(wS.alloc o).drew.grownBy w2 (Value.slice ta T tc).ownBlock)∨(v2.ownBlock=some (wS.alloc o).drew.heap.size∧(wS.alloc o).drew.grownBy w2 none))→Ap wS w2 (.slice ta T tc) v2):=fun o w2 v2 h=>Ap.of (o:=o) (by
       rcases h with⟨h1,h2⟩|⟨h1,h2⟩
       ·exact .inl ⟨h1,⟨h2.os,h2.tape,h2.output,h2.size,h2.block⟩⟩
       ·exact .inr ⟨by rw[h1];show some (wS.alloc o).heap.size=_;simp,⟨h2.os,h2.tape,h2.output,h2.size,h2.block⟩⟩)
      have e6:(Value.slice ta T tc).ownBlock≠some Wb:=by rw[←b4.out];exact c8.out.tW'
      have f4:∀j u,[Value.int .i64 (-L1)][j]? =some u→(wS.alloc (.cells #[.int .i64 (-L1)] 3)).drew.cell? ((⟨wS.heap.size,0,none⟩:Addr).add j)=some u:=fun j u hu=>zE wS #[.int .i64 (-L1)] 3 j u hu
      have d9:=zk sf;have e3:=zk s4;clear k2 g2 e1 q1 e5;go_region_law ((refine KV (by rfl) _ _ 39 (by rfl) 0 3 (.int .i64 0) 1 8 Tryz.underlying39 yB (by rfl) (by decide) (.slice ta T tc) T XT (by rfl) (by exact f7.alloc _) ⟨wS.heap.size,0,none⟩ 1 1 [.int .i64 (-L1)] (by rfl) (by rfl) (by with_reducible exact f4) (by intro u hu;simp at hu;subst hu;rfl) (by unfold maxLen;omega) (by omega) (Nat.zero_le _) ?_;intro g4 w2 b5 b0;obtain⟨j0,j1,f8,_⟩:=za b5;subst f8;have a0 :=d8.out _ _ _ b0;have a1:=a0.blk Wb i3 e6;have e2:w2.cell? ⟨Wb,4,none⟩=some (.slice ta T tc):=(World.cell?_of_block (a:=⟨Wb,4,none⟩) a1).trans e3.out;have q2:w2.frozen? ⟨Wb,4,none⟩=false:=(World.frozen?_of_block (a:=⟨Wb,4,none⟩) a1).trans d9.out))
      all_goals
       rw[HM.out]at b5;rw[←b4.out]at a0;have h8:=zk (c8.out.mark a0 (by rw[←HT.out,←e4.out];exact b5));clear b0 a0 b5 f7 a1 f4 e2 q2 s4 s5 sf r4 r5 d8 e6 d9 e3;generalize w2.setCell ⟨Wb,4,none⟩ (.slice j0 (T+1) j1)=w3 at*;go_wp2;go_roundw
       case rel=>exact⟨j+1,i8,p+1,i9,_,_,_,by omega,by go_num,rfl,by omega,by simp[i0.out],h8.out⟩
       case measure=>simp[intOf];omega
     ·obtain rfl:j=8:=by omega
      have b6:=zk a9;clear a9 i6;go_wp2;go_end0
      have k4:vals.length=9:=i0.out;have hf:=KI.finN HL.out hM (by rw[k4];exact b6.out);exact⟨rfl,g3,g4,_,by simp[k4],hf.1,hf.2.1,hf.2.2⟩
