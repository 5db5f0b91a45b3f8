import Derived.Test.YtolgebdmffcemaaGreatDoorQ17
set_option linter.all false
set_option maxHeartbeats 20000000
set_option maxRecDepth 1000000
namespace Go.Proofs.YtolgebdmffcemaaGreatDoor
open Go.RowKit
theorem Tryz.info210:(Tryz.prog.info? 210).map (fun i=>(i.zero,i.size,i.bytes))=some (some (.agg #[.slice none 0 0,.slice none 0 0]),2,48):=by kernel_rfl
theorem uK (L:List (R.Cm×Value×Value))(p:R.Cm×Value×Value):Yj (L++ [p])=Yj L++ [p.2.1,p.2.2]:=by simp[Yj]
theorem OZ {w w5 w6:World}{M O:Nat→Prop}{B:Nat}{st:R.St}{cv bv:Value}{LB:List (R.Br×Value)}{a3:List (R.Cm×Value×Value)}(hR:RSx w M O B st cv bv LB a3)(hM:∀b,M b→b<w.heap.size){v3 tv pv:Value}{c:R.Cm}
  (hK:zj (fun b=>cv.ownBlock=some b) w w5)(a1:w5.ownsRow 0 210 2 v3 (a3.length+1) (Yj a3++ [tv,pv]))(b0:∀g,v3.ownBlock=some g→cv.ownBlock=some g∨w.heap.size≤g)
  (b7:Tr w5 (fun b=>b<w.heap.size∨v3.ownBlock=some b) tv c.tree)(b4:Rd w5 (fun b=>b<w.heap.size∨v3.ownBlock=some b) pv c.parents.length (c.parents.map fun(n:Nat)=>Value.int .i64 (n:Int)))
  (a0:Below w5.heap.size (w5.setCell ⟨B,0,none⟩ v3) w6)(pk:List UInt8):
  zG w (w6.setCell ⟨B,2,none⟩ (.string ⟨pk.toArray⟩)) M O B {st with cms:=st.cms++ [c],packed:=pk}:=by
 have a8:=hR.lt B hR.own;have a9:cv.ownBlock≠some B:=fun e=>(hR.crowO B e).2.1 rfl
 have b5:=hK.size;have a2:v3.ownBlock≠some B:=fun e=>by
  rcases b0 B e with e|e
  ·exact a9 e
  ·omega
 have b6:w5.heap.size≤w6.heap.size:=by have:=a0.size;rw[World.size_setCell]at this;exact this
 have k5:∀k,k≠B→k<w5.heap.size→(w6.setCell ⟨B,2,none⟩ (.string ⟨pk.toArray⟩)).heap[k]? =w5.heap[k]? :=fun k hk hl=>by
  rw[Below.heap_setCell _ _ _ _ hk,a0.block k hl,Below.heap_setCell _ _ _ _ hk]
 have K5:zj (fun b=>b=B) w5 (w6.setCell ⟨B,2,none⟩ (.string ⟨pk.toArray⟩)):=⟨a0.os,a0.tape,a0.output,by rw[World.size_setCell];exact b6,fun k hk hn=>k5 k hn hk⟩
 have Kf:zj (fun b=>cv.ownBlock=some b∨b=B) w (w6.setCell ⟨B,2,none⟩ (.string ⟨pk.toArray⟩)):=⟨K5.os.trans hK.os,K5.tape.trans hK.tape,K5.output.trans hK.output,j0f b5 K5.size,fun k hk hn=>by
  rw[k5 k (fun e=>hn (.inr e)) (by omega)];exact hK.block k hk (fun e=>hn (.inl e))⟩
 have a4:∀o,w5.cell? ⟨B,o,none⟩=w.cell? ⟨B,o,none⟩:=fun o=>hK.cell (p:=⟨B,o,none⟩) a8 a9
 have a5:∀o,w6.cell? ⟨B,o,none⟩=(w5.setCell ⟨B,0,none⟩ v3).cell? ⟨B,o,none⟩:=fun o=>a0.cell (p:=⟨B,o,none⟩) (by show B<_;omega)
 have a7:∀b,(cv.ownBlock=some b∨b=B)→M b:=fun b e=>by
  rcases e with e|e
  ·exact hR.sub b (hR.crowO b e).1
  ·rw[e];exact hR.sub B hR.own
 have b3 :∀b,(O b∨v3.ownBlock=some b)→O b∨w.heap.size≤b:=fun b e=>by
  rcases e with e|e
  ·exact .inl e
  ·rcases b0 b e with e|e
   ·exact .inl (hR.crowO b e).1
   ·exact .inr e
 have a6 :∀b,(M b∨(O b∨v3.ownBlock=some b))→M b∨w.heap.size≤b:=fun b e=>by
  rcases e with e|e
  ·exact .inl e
  ·rcases b3 b e with e|e
   ·exact .inl (hR.sub b e)
   ·exact .inr e
 have b2:∀b,(M b∨(O b∨v3.ownBlock=some b))→(b<w.heap.size∨v3.ownBlock=some b)∨w5.heap.size≤b:=fun b e=>by
  rcases e with e|e|e
  ·exact .inl (.inl (hM b e))
  ·exact .inl (.inl (hR.lt b e))
  ·exact .inl (.inr e)
 have b1:∀b,b=B→(b<w.heap.size∨v3.ownBlock=some b):=fun b e=> .inl (by rw[e];exact a8)
 refine⟨fun b=>O b∨v3.ownBlock=some b,⟨v3,bv,LB,a3++ [(c,tv,pv)],fun b e=> .inr e,fun b e=> ?_,.inl hR.own,?_,?_,?_,fun o=> ?_,hR.brs,zh hR.row Kf (fun g e e2=> ?_),fun g e=>⟨.inl (hR.rowO g e).1,(hR.rowO g e).2⟩,fun p hp=>(hR.work p hp).step Kf a7 a6,?_,?_,fun g e=>⟨.inr e,fun e2=>a2 (by rw[←e2];exact e),fun e2=> ?_⟩,fun p hp=> ?_,fun p hp=> ?_,hR.memo.step [c] (fun o ho=>by rw[z9 _ _ _ _ _ (by omega),a5,z9 _ _ _ _ _ (by omega),a4]) Kf a7 a6⟩,Kf.mono (fun b e=> ?_),b3⟩
 ·rcases e with e|e
  ·exact j0b (hR.lt b e) Kf.size
  ·exact j0b (a1.lt b e).2 K5.size
 ·rw[z9 _ _ _ _ _ (by omega),a5]
  exact zD _ _ _ _ cv (by rw[a4];exact hR.c0)
 ·rw[z9 _ _ _ _ _ (by omega),a5,z9 _ _ _ _ _ (by omega),a4];exact hR.c1
 ·exact zD _ _ _ _ _ (by rw[a5,z9 _ _ _ _ _ (by omega),a4];exact hR.c2)
 ·rw[World.frozen?_setCell,a0.frozen (p:=⟨B,o,none⟩) (by show B<_;omega),World.frozen?_setCell,hK.frozen (p:=⟨B,o,none⟩) a8 a9];exact hR.fr o
 ·rcases e2 with e2|e2
  ·exact(hR.crowO g e2).2.2 e
  ·exact(hR.rowO g e).2 e2
 ·rw[List.map_append,hR.cms];rfl
 ·rw[List.length_append,List.length_singleton,uK]
  exact zh a1 K5 (fun g e e2=>a2 (by rw[←e2];exact e))
 ·rcases b0 g e with e3|e3
  ·exact(hR.crowO g e3).2.2 e2
  ·have:=hR.lt g (hR.rowO g e2).1;omega
 ·rcases List.mem_append.1 hp with hp|hp
  ·exact(hR.ctree p hp).step Kf a7 a6
  ·rw[List.mem_singleton.1 hp];exact b7.step K5 b1 b2
 ·rcases List.mem_append.1 hp with hp|hp
  ·exact(hR.cpar p hp).step Kf a7 a6
  ·rw[List.mem_singleton.1 hp];exact b4.step K5 b1 b2
 ·rcases e with e|e
  ·exact(hR.crowO b e).1
  ·rw[e];exact hR.own
theorem Qk (c:R.Cm):(R.bodyC c).length=1+c.parents.length+(R.Written c.tree).length:=by simp[R.bodyC];omega
theorem Om (n:Nat)(h:n<256):(UInt8.ofNat n).toNat=n:=by rw[UInt8.toNat_ofNat'];omega
theorem Gy (c:R.Cm)(h2:c.parents.length≤2)(h:0<(R.bodyC c).length):((R.bodyC c)[0]).toNat=c.parents.length:=by
 simp only[R.bodyC,List.getElem_cons_zero];exact Om _ (by omega)
theorem gO (c:R.Cm)(k:Nat)(hk:k<c.parents.length)(hp:c.parents[k]<256)(h:k+1<(R.bodyC c).length):((R.bodyC c)[k+1]).toNat=c.parents[k]:=by
 simp only[R.bodyC,List.getElem_cons_succ];rw[List.getElem_append_left (by simpa using hk),List.getElem_map];exact Om _ hp
theorem Oa (c:R.Cm)(m:Nat)(hm:m=(R.bodyC c).length):({data:=(R.bodyC c).toArray}:ByteArray).extract (1+c.parents.length) m=⟨(R.Written c.tree).toArray⟩:=by
 have h1:=Yl (R.bodyC c) (1+c.parents.length) m;have h2:((R.bodyC c).drop (1+c.parents.length)).take (m-(1+c.parents.length))=R.Written c.tree:=by
  have hl:=Qk c;have h3:(R.bodyC c).drop (1+c.parents.length)=R.Written c.tree:=by
   rw[R.bodyC,Nat.add_comm,List.drop_succ_cons,List.drop_left' (by simp)]
  rw[h3,List.take_of_length_le (by omega)]
 rw[h2]at h1;simpa[S]using h1
