import Derived.Test.YtolgebdmffcemaaGreatDoorQ12
set_option linter.all false
set_option maxHeartbeats 20000000
set_option maxRecDepth 1000000
namespace Go.Proofs.YtolgebdmffcemaaGreatDoor
open Go.RowKit
theorem z9 (w:World)(B i j:Nat)(v:Value)(h:j≠i):(w.setCell ⟨B,i,none⟩ v).cell? ⟨B,j,none⟩=w.cell? ⟨B,j,none⟩:=
 World.cell?_setCell_other (w:=w) (a:=⟨B,i,none⟩) (b:=⟨B,j,none⟩) (v:=v) (fun e=>h (by injection e with _ e _;exact e.symm))
theorem zD (w:World)(B i:Nat)(v u:Value)(h:w.cell? ⟨B,i,none⟩=some u):(w.setCell ⟨B,i,none⟩ v).cell? ⟨B,i,none⟩=some v:=
 World.cell?_setCell_same (w:=w) (a:=⟨B,i,none⟩) (v:=v) h
theorem zh {O:Nat→Prop}{w w' :World}{base:Nat}{e:TypeId}{size:Nat}{v:Value}{n:Nat}{xs:List Value}(h:w.ownsRow base e size v n xs)(hk:zj O w w')(a1:∀g,v.ownBlock=some g→¬O g):w'.ownsRow base e size v n xs:=by
 obtain⟨h1,h2⟩:=h;refine⟨h1,?_⟩;rcases h2 with h2|⟨g,cap,a0,rfl,hg,hh,r⟩
 ·exact .inl h2
 ·exact .inr ⟨g,cap,a0,rfl,hg,by rw[hk.block g (Array.getElem?_eq_some_iff.1 hh).1 (a1 g rfl)];exact hh,r⟩
theorem RS.kept {w w' :World}{M O:Nat→Prop}{B:Nat}{st:R.St}(h:RS w M O B st){Z:Nat→Prop}(hk:zj Z w w')(hZ:∀b,Z b→M b∧¬O b){M' :Nat→Prop}(hM:∀b,M' b→M b∨w.heap.size≤b)(a1:∀b,O b→M' b):RS w' M' O B st:=by
 obtain⟨cv,bv,LB,a0,h⟩:=h;have hs:=hk.size;have hB:∀o,w'.cell? ⟨B,o,none⟩=w.cell? ⟨B,o,none⟩:=fun o=>hk.cell (p:=⟨B,o,none⟩) (h.lt B h.own) (fun e=>(hZ B e).2 h.own)
 have hF:∀o,w'.frozen? ⟨B,o,none⟩=w.frozen? ⟨B,o,none⟩:=fun o=>hk.frozen (p:=⟨B,o,none⟩) (h.lt B h.own) (fun e=>(hZ B e).2 h.own)
 exact⟨cv,bv,LB,a0,a1,fun b hb=>j0b (h.lt b hb) hs,h.own,by rw[hB];exact h.c0,by rw[hB];exact h.c1,by rw[hB];exact h.c2,fun o=>by rw[hF];exact h.fr o,h.brs,
  zh h.row hk (fun g hg e=>(hZ g e).2 (h.rowO g hg).1),h.rowO,fun p hp=>(h.work p hp).step hk (fun b hb=>(hZ b hb).1) hM,h.cms,zh h.crow hk (fun g hg e=>(hZ g e).2 (h.crowO g hg).1),h.crowO,
  fun p hp=>(h.ctree p hp).step hk (fun b hb=>(hZ b hb).1) hM,fun p hp=>(h.cpar p hp).step hk (fun b hb=>(hZ b hb).1) hM,h.memo.keep (fun o _=>hB o) hk (fun b hb=>(hZ b hb).1) hM⟩
theorem RS.below {w w' :World}{M O:Nat→Prop}{B:Nat}{st:R.St}(h:RS w M O B st)(hb:Below w.heap.size w w'):RS w' M O B st:=
 h.kept (Z:=fun _=>False) (zj.of_below hb) (fun _ e=>e.elim) (fun _ h=> .inl h) (by obtain⟨_,_,_,_,h⟩:=h;exact h.sub)
theorem vC {w:World}{base a0 :Nat}{e:TypeId}{size:Nat}{v:Value}{n:Nat}{xs:List Value}(h:w.ownsRow base e size v n xs)(hb:a0 ≤base):w.ownsRow a0 e size v n xs:=by
 obtain⟨h1,h2⟩:=h;refine⟨h1,?_⟩;rcases h2 with h2|⟨g,cap,a1,rfl,hg,r⟩
 ·exact .inl h2
 ·exact .inr ⟨g,cap,a1,rfl,j0f hb hg,r⟩
theorem Yp (a b:List (R.Br×Value)):zv (a++b)=zv a++zv b:=by simp[zv]
theorem xX:∀(L:List (R.Br×Value)) (k:Nat),zv (L.take k)=(zv L).take (k*3)
 |[],k=>by simp[zv]
 |p::r,0=>by simp[zv]
 |p::r,k+1=>by
  have ih:=xX r k;unfold zv at ih⊢;rw[List.take_succ_cons,List.flatMap_cons,ih,List.flatMap_cons,show(k+1)*3=k*3+3 from by omega];simp
theorem xY:∀(L:List (R.Br×Value)) (k:Nat),zv (L.drop k)=(zv L).drop (k*3)
 |[],k=>by simp[zv]
 |p::r,0=>by simp
 |p::r,k+1=>by
  have ih:=xY r k;unfold zv at ih⊢;rw[List.drop_succ_cons,ih,List.flatMap_cons,show(k+1)*3=k*3+3 from by omega];simp
theorem q5 {w w5 w6:World}{M O:Nat→Prop}{B:Nat}{st:R.St}{cv bv:Value}{LB:List (R.Br×Value)}{a8:List (R.Cm×Value×Value)}(hR:RSx w M O B st cv bv LB a8){name:List UInt8}{n k:Nat}{tv v3:Value}{tree:List R.Leaf}(b3:Tr w M tv tree)
  (a5:Below w.heap.size w w5)(hk:k≤LB.length)(a7:R.pos st.brs name=k){m:Nat}(hm:m=LB.length+1){xs:List Value}(b4:xs=(zv LB).take (k*3)++([.string ⟨name.toArray⟩,.int .i64 (n:Int),tv]++(zv LB).drop (k*3)))
  (a9:w5.ownsRow (w.heap.size+1) 87 3 v3 m xs)(a6:Below w5.heap.size (w5.setCell ⟨B,1,none⟩ v3) w6):
  ∃O',RS (w6.setCell ⟨B,2,none⟩ (.string ⟨(st.packed++R.record 66 (UInt8.ofNat n::name)).toArray⟩)) (fun b=>M b∨O' b) O' B (R.headNew st {name:=name,head:=n,work:=tree})∧zj (fun b=>b=B) w (w6.setCell ⟨B,2,none⟩ (.string ⟨(st.packed++R.record 66 (UInt8.ofNat n::name)).toArray⟩))∧(∀b,O' b→O b∨w.heap.size≤b):=by
 have a4:=hR.lt B hR.own;have b0:=a5.size;have b2:=a6.size;simp only[World.size_setCell]at b2;have b1:zj (fun b=>b=B) w5 w6:=((zj.refl (fun b=>b=B) w5).setCell (p:=⟨B,1,none⟩) (.inl rfl) v3).trans (zj.of_below (by rw[World.size_setCell];exact a6));have a0 :=b1.setCell (p:=⟨B,2,none⟩) (.inl rfl) (.string ⟨(st.packed++R.record 66 (UInt8.ofNat n::name)).toArray⟩);have hK:=(zj.of_below (M:=fun b=>b=B) a5).trans a0;have a3:∀g,v3.ownBlock=some g→w.heap.size+1≤g∧g<w5.heap.size:=fun g hg=>a9.lt g hg
 have e6:∀o,w6.cell? ⟨B,o,none⟩=(w5.setCell ⟨B,1,none⟩ v3).cell? ⟨B,o,none⟩:=fun o=>a6.cell (p:=⟨B,o,none⟩) (j0b a4 b0)
 have e5:∀o,w5.cell? ⟨B,o,none⟩=w.cell? ⟨B,o,none⟩:=fun o=>a5.cell (p:=⟨B,o,none⟩) a4
 have f6:∀o,w6.frozen? ⟨B,o,none⟩=w.frozen? ⟨B,o,none⟩:=fun o=>by
  rw[a6.frozen (p:=⟨B,o,none⟩) (j0b a4 b0),World.frozen?_setCell,a5.frozen (p:=⟨B,o,none⟩) a4]
 have a2:∀b,(M b∨O b∨v3.ownBlock=some b)→M b∨w.heap.size≤b:=by
  rintro b (h|h|h)
  ·exact .inl h
  ·exact .inl (hR.sub b h)
  ·exact .inr (by have:=(a3 b h).1;omega)
 have a1:∀b,b=B→M b:=fun b e=>e▸hR.sub B hR.own
 refine⟨fun b=>O b∨v3.ownBlock=some b,⟨cv,v3,LB.take k++([({name:=name,head:=n,work:=tree},tv)]++LB.drop k),a8,fun b hb=> .inr hb,?_,.inl hR.own,?_,?_,?_,?_,?_,?_,?_,?_,hR.cms,?_,?_,?_,?_,hR.memo.keep (fun o ho=>by rw[z9 _ _ _ _ _ (by omega),e6,z9 _ _ _ _ _ (by omega),e5]) hK a1 a2⟩,hK,?_⟩
 ·rintro b (h|h)
  ·exact j0b (hR.lt b h) hK.size
  ·exact j0b (a3 b h).2 a0.size
 ·rw[z9 _ _ _ _ _ (by omega),e6,z9 _ _ _ _ _ (by omega),e5];exact hR.c0
 ·rw[z9 _ _ _ _ _ (by omega),e6]
  exact zD _ _ _ _ _ ((e5 1).trans hR.c1)
 ·refine zD _ _ _ _ (.string ⟨st.packed.toArray⟩) ?_
  rw[e6,z9 _ _ _ _ _ (by omega),e5];exact hR.c2
 ·intro o;rw[World.frozen?_setCell,f6];exact hR.fr o
 ·simp only[R.headNew,R.insB,List.map_append,List.map_take,List.map_drop,hR.brs,a7];rfl
 ·have h1:=zh (vC a9 (Nat.zero_le _)) a0 (fun g hg e=>by have:=(a3 g hg).1;omega)
  have hl:(LB.take k++([(({name:=name,head:=n,work:=tree}:R.Br),tv)]++LB.drop k)).length=m:=by simp;omega
  rw[hl];rw[Yp,Yp,xX,xY];rw[b4]at h1;exact h1
 ·intro g hg
  exact⟨.inr hg,by have:=(a3 g hg).1;omega⟩
 ·intro p hp
  rcases List.mem_append.1 hp with hp|hp
  ·exact(hR.work p (List.mem_of_mem_take hp)).step hK a1 a2
  ·rcases List.mem_append.1 hp with hp|hp
   ·rw[List.mem_singleton]at hp;subst hp;exact b3.step hK a1 a2
   ·exact(hR.work p (List.mem_of_mem_drop hp)).step hK a1 a2
 ·exact zh hR.crow hK (fun g hg e=>(hR.crowO g hg).2.1 e)
 ·intro g hg
  have h1:=hR.crowO g hg;exact⟨.inl h1.1,h1.2.1,fun e=>by have:=(a3 g e).1;have:=hR.lt g h1.1;omega⟩
 ·exact fun p hp=>(hR.ctree p hp).step hK a1 a2
 ·exact fun p hp=>(hR.cpar p hp).step hK a1 a2
 ·rintro b (h|h)
  ·exact .inl h
  ·exact .inr (by have:=(a3 b h).1;omega)
theorem vk (W:World)(H:Nat)(hH:W.heap.size=H)(a:UInt8)(x:Int)(hx:(a.toNat:Int)=x):
  (convert 100 9 (.slice (some ⟨H,0,none⟩) 1 1)).run Tryz.prog (W.alloc (.cells #[.int .u8 x] 5))= .ok (.string ⟨[a].toArray⟩) (W.alloc (.cells #[.int .u8 x] 5)):=by
 subst hH;exact GH W a x hx
theorem xQ (ci:Int)(B:Nat)(c:UInt8)(a1:(c.toNat:Int)=ci)(packed a0:List UInt8)(w:World)(hB:B<w.heap.size)(h2:w.cell? ⟨B,2,none⟩=some (.string ⟨packed.toArray⟩))(hf:∀o,w.frozen? ⟨B,o,none⟩=false)(hp:packed.length≤1000000000000000)(hb:a0.length≤1000000):
  Calls Tryz.prog 166 #[.pointer (some ⟨B,0,none⟩),.int .u8 ci,.string ⟨a0.toArray⟩] w fun e w' =>
   e= .returned (.tuple #[])∧∃w1,Below w.heap.size w w1∧w' =w1.setCell ⟨B,2,none⟩ (.string ⟨(packed++R.record c a0).toArray⟩):=by
 subst a1;exact f7 B c packed a0 w hB h2 hf hp hb
theorem q7 {w:World}{M:Nat→Prop}(L:List (R.Br×Value))(h:∀p∈L,Tr w M p.2 p.1.work):∀u∈zv L,u.oneCell' =true:=by
 intro u hu;unfold zv at hu;obtain⟨p,hp,hu⟩:=List.mem_flatMap.1 hu;obtain⟨_,_,⟨a,cap,e,_⟩,_⟩:=h p hp;simp only[List.mem_cons,List.not_mem_nil,or_false]at hu;rcases hu with rfl|rfl|rfl
 ·rfl
 ·rfl
 ·rw[e];rfl
theorem xf {w:World}{g n:Nat}{xs:List Value}(hc:∀j u,xs[j]? =some u→w.cell? ⟨g,j,none⟩=some u):∀ad,some (⟨g,0,none⟩:Addr)=some ad→∀j u,(xs.take n)[j]? =some u→w.cell? (ad.add j)=some u:=by
 intro ad e j u hu;simp only[Option.some.injEq]at e;subst e;have a0:(⟨g,0,none⟩:Addr).add j=⟨g,j,none⟩:=by unfold Addr.add;split<;>simp_all
 rw[a0];rw[List.getElem?_take]at hu;split at hu
 ·exact hc j u hu
 ·cases hu
theorem Km {w:World}{g n:Nat}{xs:List Value}(hc:∀j u,xs[j]? =some u→w.cell? ⟨g,j,none⟩=some u):∀ad,some (⟨g,n,none⟩:Addr)=some ad→∀j u,(xs.drop n)[j]? =some u→w.cell? (ad.add j)=some u:=by
 intro ad e j u hu;simp only[Option.some.injEq]at e;subst e;have a0:(⟨g,n,none⟩:Addr).add j=⟨g,n+j,none⟩:=by unfold Addr.add;split<;>simp_all
 rw[a0];rw[List.getElem?_drop]at hu;exact hc _ u hu
theorem Q5 (a:List UInt8)(n:Int)(ia:Option Addr)(il ic:Nat):∀u∈ #[Value.string ⟨a.toArray⟩,.int .i64 n,.slice ia il ic].toList,u.oneCell' =true:=by
 intro u hu;simp only[List.mem_cons,List.not_mem_nil,or_false]at hu;rcases hu with rfl|rfl|rfl<;>rfl
theorem kS (B:Nat)(st:R.St)(name:List UInt8)(n:Nat)(tv:Value)(tree:List R.Leaf)(w:World)(M O:Nat→Prop)(h:RS w M O B st)(hM:∀b,M b→b<w.heap.size)
  (e1:R.fndI st.brs name= -1)(c9:st.brs.length≤1000)(f8:st.packed.length≤1000000000000)(f7:name.length≤1000)(hn:n≤255)
  (e8:∀W,Below w.heap.size w W→Calls Tryz.prog 176 #[.pointer (some ⟨B,0,none⟩),.int .i64 (n:Int)] W fun e w' =>e= .returned tv∧w' =W)(d3:Tr w M tv tree):
  Calls Tryz.prog 165 #[.pointer (some ⟨B,0,none⟩),.string ⟨name.toArray⟩,.int .i64 (n:Int)] w fun e w' =>
   e= .returned (.tuple #[])∧∃O',RS w' (fun b=>M b∨O' b) O' B (R.headNew st {name:=name,head:=n,work:=tree})∧zj (fun b=>b=B) w w' ∧(∀b,O' b→O b∨w.heap.size≤b):=by
 obtain⟨ta,b7,f3⟩:∃ta b7,tv= .slice ta tree.length b7:=by
  obtain⟨L,hL,⟨a,cap,rfl,_⟩,_⟩:=d3;exact⟨a,cap,by rw[←hL,List.length_map]⟩
 subst f3;have e7:=h;obtain⟨cv,bv,LB,f4,hR⟩:=h;have b6:=hR.lt B hR.own;go_enter Tryz.func165,Tryz.ntmps165;go_wp2_with fail
 refine(e8 _ (j0g _ _)).mono ?_;rintro e w1 ⟨rfl,rfl⟩;go_wp2_with fail
 generalize hA:w1.alloc (.cells #[.string ⟨name.toArray⟩,.int .i64 (n:Int),.slice ta tree.length b7] 87)=wA;have c6:Below w1.heap.size w1 wA:=by rw[←hA];exact(j0g _ _).alloc (j0a _) _
 have f9:wA.heap.size=w1.heap.size+1:=by rw[←hA];simp
 have x0:wA.cell? ⟨w1.heap.size,0,none⟩=some (.string ⟨name.toArray⟩):=by rw[←hA];simp
 have x1:wA.cell? ⟨w1.heap.size,1,none⟩=some (.int .i64 (n:Int)):=by rw[←hA];simp
 have x2:wA.cell? ⟨w1.heap.size,2,none⟩=some (.slice ta tree.length b7):=by rw[←hA];simp
 clear hA;refine(yJ B st name _ M O (e7.below c6)).mono ?_;rintro e w2 ⟨rfl,rfl⟩;rw[e1];have e2:=zw hR.row c6;have c1:=(c6.cell (p:=⟨B,1,none⟩) b6).trans hR.c1;obtain⟨a,cap,rfl,f6,hm,d4,d5⟩:=za e2;have f5:LB.length≤1000:=by rw[←hR.brs,List.length_map]at c9;exact c9
 unfold maxLen at hm;go_wp2;go_loop [8] (fun i=>∃k:Nat,k≤LB.length∧i= .int .i64 k∧((LB.map (·.1)).take k).all (R.less name)=true) (fun i=>LB.length-(intOf i).toNat)
 case atStart=>exact⟨0,Nat.zero_le _,rfl,rfl⟩
 case round=>
  obtain⟨k,hk,rfl,c8⟩:=hrel;have HA:Hid (((LB.map (·.1)).take k).all (R.less name)=true):=c8;clear c8;by_cases c7:∃h:k<LB.length,R.less name (LB[k]'h).1=true
  ·obtain⟨b5,d9⟩:=c7
   cases a with
   |none=>have:=(d4 rfl).1;omega
   |some ad=>
    obtain⟨g,rfl,_,hg,_,a2⟩:=d5 ad rfl;obtain⟨d0, -, -⟩:=ZS a2 k b5;have d7:Op.bytesLess (LB[k]'b5).1.name name=true:=d9;have HL:Hid (R.less name ((LB.map (·.1))[k]'(by simpa using b5))=true):=by show _=_;simpa using d9
    generalize(LB[k]'b5).1=y at d7 d0;clear a2 d5 d4 d9;go_wp2;go_round
    case rel=>exact⟨k+1,by omega,by go_num,R.all_snoc _ _ k (by simpa using b5) HA.out HL.out⟩
    case measure=>simp[intOf];omega
  ·have HP:Hid (R.pos st.brs name=k):=by
    show _=_;rw[←hR.brs];refine R.pos_eq _ _ k (by simpa using hk) HA.out fun h=> ?_
    rw[Bool.eq_false_iff];intro e;exact c7 ⟨by simpa using h,by simpa using e⟩
   by_cases b5:k<LB.length
   ·have d7:Op.bytesLess (LB[k]'b5).1.name name=false:=by
     rw[Bool.eq_false_iff];intro e;exact c7 ⟨b5,e⟩
    cases a with
    |none=>have:=(d4 rfl).1;omega
    |some ad=>
     obtain⟨g,rfl,_,hg,_,a2⟩:=d5 ad rfl;obtain⟨d0, -, -⟩:=ZS a2 k b5;generalize(LB[k]'b5).1=y at d7 d0;clear c7;have b2:=q7 LB hR.work;go_wp2_with (at_builtin;go_loud (refine Zb w2 rfl _ _ 75 rfl (w1.heap.size+1) 87 (.agg #[.string ⟨#[]⟩,.int .i64 0,.slice none 0 0]) 3 48 Tryz.underlying75 Tryz.info87 rfl (by decide) (World.ownsRow_nil _ _ _ _) (some ⟨g,0,none⟩) k cap ((zv LB).take (k*3)) (by rw[List.length_take,zW];omega) (fun e=>by cases e) (xf a2) (by rfl) (by rfl) (fun u hu=>b2 u (List.mem_of_mem_take hu)) (by unfold maxLen;omega) (by omega) (by omega) ?_))
     intro v1 w3 b0 a0;have y0:=a0.cell x0 (by simp[Value.ownBlock]);have y1:=a0.cell x1 (by simp[Value.ownBlock]);have y2:=a0.cell x2 (by simp[Value.ownBlock]);have b3 :=a0.cell c1 (by simp[Value.ownBlock]);have a5:∀j u,(zv LB)[j]? =some u→w3.cell? ⟨g,j,none⟩=some u:=fun j u hu=>a0.cell (a2 j u hu) (by simp[Value.ownBlock])
     have e3:=a0.size;clear x0 x1 x2 c1 a2;go_wp2_with (at_builtin;go_loud (refine Zi w3 rfl _ _ 75 rfl (w1.heap.size+1) 87 (.agg #[.string ⟨#[]⟩,.int .i64 0,.slice none 0 0]) 3 48 Tryz.underlying75 Tryz.info87 rfl (by decide) b0 _ rfl (by rfl) (by rfl) (Q5 _ _ _ _ _) (by unfold maxLen;omega) (by omega) (by omega) ?_))
     intro v2 w4 b1 a1;have e4:=a1.size;have e6:=hR.lt g (hR.rowO g rfl).1;have a9 :=a1.cell b3 (fun e=>by have:=(b0.lt B e.symm).1;omega);have a8:∀j u,(zv LB)[j]? =some u→w4.cell? ⟨g,j,none⟩=some u:=fun j u hu=>a1.cell (a5 j u hu) (fun e=>by have:=(b0.lt g e.symm).1;omega)
     clear y0 y1 y2 b3 a5;go_wp2_with (at_builtin;go_loud (refine Zb w4 rfl _ _ 75 rfl (w1.heap.size+1) 87 (.agg #[.string ⟨#[]⟩,.int .i64 0,.slice none 0 0]) 3 48 Tryz.underlying75 Tryz.info87 rfl (by decide) b1 (some ⟨g,k*3,none⟩) (LB.length-k) (cap-k) ((zv LB).drop (k*3)) (by rw[List.length_drop,zW];omega) (fun e=>by cases e) (Km a8) (by rfl) (by rfl) (fun u hu=>b2 u (List.mem_of_mem_drop hu)) (by unfold maxLen;omega) (by omega) (by omega) ?_))
     intro v3 w5 b4 a4;have e5:=a4.size;have cB:=a4.cell a9 (fun e=>by have:=(b1.lt B e.symm).1;omega);clear a9 a8;have a7:Below w1.heap.size w1 w5:=((c6.grown a0 (by omega) (fun j hj=>by simp[Value.ownBlock]at hj)).grown a1 (by omega) (fun j hj=>by have:=(b0.lt j hj).1;omega)).grown a4 (by omega) (fun j hj=>by have:=(b1.lt j hj).1;omega);have fB:∀o,w5.frozen? ⟨B,o,none⟩=false:=fun o=>(a7.frozen (p:=⟨B,o,none⟩) b6).trans (hR.fr o)
     have d6:=fB 1;have pB:=(a7.cell (p:=⟨B,2,none⟩) b6).trans hR.c2;obtain⟨a3,a6,rfl,_,_,_,_⟩:=za b4;have d8:=vk (w5.setCell ⟨B,1,none⟩ (.slice a3 (k+1+(LB.length-k)) a6)) w5.heap.size (by simp) (UInt8.ofNat n) (n:Int) (by rw[ZD];omega);clear a0 a1 a4;go_wp2_with fail
     rw[yZ [UInt8.ofNat n] #[UInt8.ofNat n] rfl,Z9];refine(xQ 66 B 66 rfl st.packed (UInt8.ofNat n::name) _ (by simp;omega) (by rw[World.cell?_alloc_past _ _ _ (by simp;omega),z9 _ _ _ _ _ (by omega)];exact pB) (fun o=>by rw[World.frozen?_alloc_past _ _ _ (by simp;omega),World.frozen?_setCell];exact fB o) (by omega) (by simp;omega)).mono ?_;rintro e w' ⟨rfl,w6,b8,rfl⟩;go_wp2;go_end0
     refine⟨rfl,q5 hR d3 a7 hk HP.out (by omega) (by simp) b4 ?_⟩;have b9:Below w5.heap.size (w5.setCell ⟨B,1,none⟩ (.slice a3 (k+1+(LB.length-k)) a6)) ((w5.setCell ⟨B,1,none⟩ (.slice a3 (k+1+(LB.length-k)) a6)).alloc (.cells #[.int .u8 (n:Int)] 5)):=(j0g _ _).alloc (by simp) _;exact b9.trans (b8.mono (by simp))
   ·cases a with
    |some ad=>
     obtain⟨g,rfl,_,hg,_,a2⟩:=d5 ad rfl;by_cases e9:cap=k
     ·subst e9
      clear c7;have b2:=q7 LB hR.work;go_wp2_with (at_builtin;go_loud (refine Zb w2 rfl _ _ 75 rfl (w1.heap.size+1) 87 (.agg #[.string ⟨#[]⟩,.int .i64 0,.slice none 0 0]) 3 48 Tryz.underlying75 Tryz.info87 rfl (by decide) (World.ownsRow_nil _ _ _ _) (some ⟨g,0,none⟩) cap cap ((zv LB).take (cap*3)) (by rw[List.length_take,zW];omega) (fun e=>by cases e) (xf a2) (by rfl) (by rfl) (fun u hu=>b2 u (List.mem_of_mem_take hu)) (by unfold maxLen;omega) (by omega) (by omega) ?_))
      intro v1 w3 b0 a0;have y0:=a0.cell x0 (by simp[Value.ownBlock]);have y1:=a0.cell x1 (by simp[Value.ownBlock]);have y2:=a0.cell x2 (by simp[Value.ownBlock]);have b3 :=a0.cell c1 (by simp[Value.ownBlock]);have a5:∀j u,(zv LB)[j]? =some u→w3.cell? ⟨g,j,none⟩=some u:=fun j u hu=>a0.cell (a2 j u hu) (by simp[Value.ownBlock])
      have e3:=a0.size;clear x0 x1 x2 c1 a2;go_wp2_with (at_builtin;go_loud (refine Zi w3 rfl _ _ 75 rfl (w1.heap.size+1) 87 (.agg #[.string ⟨#[]⟩,.int .i64 0,.slice none 0 0]) 3 48 Tryz.underlying75 Tryz.info87 rfl (by decide) b0 _ rfl (by rfl) (by rfl) (Q5 _ _ _ _ _) (by unfold maxLen;omega) (by omega) (by omega) ?_))
      intro v2 w4 b1 a1;have e4:=a1.size;have e6:=hR.lt g (hR.rowO g rfl).1;have a9 :=a1.cell b3 (fun e=>by have:=(b0.lt B e.symm).1;omega);have a8:∀j u,(zv LB)[j]? =some u→w4.cell? ⟨g,j,none⟩=some u:=fun j u hu=>a1.cell (a5 j u hu) (fun e=>by have:=(b0.lt g e.symm).1;omega)
      clear y0 y1 y2 b3 a5;go_wp2_with (at_builtin;go_loud (refine Zb w4 rfl _ _ 75 rfl (w1.heap.size+1) 87 (.agg #[.string ⟨#[]⟩,.int .i64 0,.slice none 0 0]) 3 48 Tryz.underlying75 Tryz.info87 rfl (by decide) b1 (some ⟨g,0,none⟩) 0 0 [] (by simp) (fun e=>by cases e) (fun ad _ j u hu=>by simp at hu) (by rfl) (by rfl) (fun u hu=>by cases hu) (by unfold maxLen;omega) (by omega) (by omega) ?_))
      intro v3 w5 b4 a4;have e5:=a4.size;have cB:=a4.cell a9 (fun e=>by have:=(b1.lt B e.symm).1;omega);clear a9 a8;have a7:Below w1.heap.size w1 w5:=((c6.grown a0 (by omega) (fun j hj=>by simp[Value.ownBlock]at hj)).grown a1 (by omega) (fun j hj=>by have:=(b0.lt j hj).1;omega)).grown a4 (by omega) (fun j hj=>by have:=(b1.lt j hj).1;omega);have fB:∀o,w5.frozen? ⟨B,o,none⟩=false:=fun o=>(a7.frozen (p:=⟨B,o,none⟩) b6).trans (hR.fr o)
      have d6:=fB 1;have pB:=(a7.cell (p:=⟨B,2,none⟩) b6).trans hR.c2;obtain⟨a3,a6,rfl,_,_,_,_⟩:=za b4;have d8:=vk (w5.setCell ⟨B,1,none⟩ (.slice a3 (cap+1+0) a6)) w5.heap.size (by simp) (UInt8.ofNat n) (n:Int) (by rw[ZD];omega);clear a0 a1 a4;go_wp2_with fail
      rw[yZ [UInt8.ofNat n] #[UInt8.ofNat n] rfl,Z9];refine(xQ 66 B 66 rfl st.packed (UInt8.ofNat n::name) _ (by simp;omega) (by rw[World.cell?_alloc_past _ _ _ (by simp;omega),z9 _ _ _ _ _ (by omega)];exact pB) (fun o=>by rw[World.frozen?_alloc_past _ _ _ (by simp;omega),World.frozen?_setCell];exact fB o) (by omega) (by simp;omega)).mono ?_;rintro e w' ⟨rfl,w6,b8,rfl⟩;go_wp2;go_end0
      refine⟨rfl,q5 hR d3 a7 hk HP.out (by omega) (by rw[List.drop_eq_nil_of_le (by rw[zW];omega)];simp) b4 ?_⟩;have b9:Below w5.heap.size (w5.setCell ⟨B,1,none⟩ (.slice a3 (cap+1+0) a6)) ((w5.setCell ⟨B,1,none⟩ (.slice a3 (cap+1+0) a6)).alloc (.cells #[.int .u8 (n:Int)] 5)):=(j0g _ _).alloc (by simp) _;exact b9.trans (b8.mono (by simp))
     ·have f0 :k<cap:=by omega
      clear c7;have b2:=q7 LB hR.work;go_wp2_with (at_builtin;go_loud (refine Zb w2 rfl _ _ 75 rfl (w1.heap.size+1) 87 (.agg #[.string ⟨#[]⟩,.int .i64 0,.slice none 0 0]) 3 48 Tryz.underlying75 Tryz.info87 rfl (by decide) (World.ownsRow_nil _ _ _ _) (some ⟨g,0,none⟩) k cap ((zv LB).take (k*3)) (by rw[List.length_take,zW];omega) (fun e=>by cases e) (xf a2) (by rfl) (by rfl) (fun u hu=>b2 u (List.mem_of_mem_take hu)) (by unfold maxLen;omega) (by omega) (by omega) ?_))
      intro v1 w3 b0 a0;have y0:=a0.cell x0 (by simp[Value.ownBlock]);have y1:=a0.cell x1 (by simp[Value.ownBlock]);have y2:=a0.cell x2 (by simp[Value.ownBlock]);have b3 :=a0.cell c1 (by simp[Value.ownBlock]);have a5:∀j u,(zv LB)[j]? =some u→w3.cell? ⟨g,j,none⟩=some u:=fun j u hu=>a0.cell (a2 j u hu) (by simp[Value.ownBlock])
      have e3:=a0.size;clear x0 x1 x2 c1 a2;go_wp2_with (at_builtin;go_loud (refine Zi w3 rfl _ _ 75 rfl (w1.heap.size+1) 87 (.agg #[.string ⟨#[]⟩,.int .i64 0,.slice none 0 0]) 3 48 Tryz.underlying75 Tryz.info87 rfl (by decide) b0 _ rfl (by rfl) (by rfl) (Q5 _ _ _ _ _) (by unfold maxLen;omega) (by omega) (by omega) ?_))
      intro v2 w4 b1 a1;have e4:=a1.size;have e6:=hR.lt g (hR.rowO g rfl).1;have a9 :=a1.cell b3 (fun e=>by have:=(b0.lt B e.symm).1;omega);have a8:∀j u,(zv LB)[j]? =some u→w4.cell? ⟨g,j,none⟩=some u:=fun j u hu=>a1.cell (a5 j u hu) (fun e=>by have:=(b0.lt g e.symm).1;omega)
      clear y0 y1 y2 b3 a5;go_wp2_with (at_builtin;go_loud (refine Zb w4 rfl _ _ 75 rfl (w1.heap.size+1) 87 (.agg #[.string ⟨#[]⟩,.int .i64 0,.slice none 0 0]) 3 48 Tryz.underlying75 Tryz.info87 rfl (by decide) b1 (some ⟨g,k*3,none⟩) (LB.length-k) (cap-k) [] (by simp;omega) (fun e=>by cases e) (fun ad _ j u hu=>by simp at hu) (by rfl) (by rfl) (fun u hu=>by cases hu) (by unfold maxLen;omega) (by omega) (by omega) ?_))
      intro v3 w5 b4 a4;have e5:=a4.size;have cB:=a4.cell a9 (fun e=>by have:=(b1.lt B e.symm).1;omega);clear a9 a8;have a7:Below w1.heap.size w1 w5:=((c6.grown a0 (by omega) (fun j hj=>by simp[Value.ownBlock]at hj)).grown a1 (by omega) (fun j hj=>by have:=(b0.lt j hj).1;omega)).grown a4 (by omega) (fun j hj=>by have:=(b1.lt j hj).1;omega);have fB:∀o,w5.frozen? ⟨B,o,none⟩=false:=fun o=>(a7.frozen (p:=⟨B,o,none⟩) b6).trans (hR.fr o)
      have d6:=fB 1;have pB:=(a7.cell (p:=⟨B,2,none⟩) b6).trans hR.c2;obtain⟨a3,a6,rfl,_,_,_,_⟩:=za b4;have d8:=vk (w5.setCell ⟨B,1,none⟩ (.slice a3 (k+1+(LB.length-k)) a6)) w5.heap.size (by simp) (UInt8.ofNat n) (n:Int) (by rw[ZD];omega);clear a0 a1 a4;go_wp2_with fail
      rw[yZ [UInt8.ofNat n] #[UInt8.ofNat n] rfl,Z9];refine(xQ 66 B 66 rfl st.packed (UInt8.ofNat n::name) _ (by simp;omega) (by rw[World.cell?_alloc_past _ _ _ (by simp;omega),z9 _ _ _ _ _ (by omega)];exact pB) (fun o=>by rw[World.frozen?_alloc_past _ _ _ (by simp;omega),World.frozen?_setCell];exact fB o) (by omega) (by simp;omega)).mono ?_;rintro e w' ⟨rfl,w6,b8,rfl⟩;go_wp2;go_end0
      refine⟨rfl,q5 hR d3 a7 hk HP.out (by omega) (by rw[List.drop_eq_nil_of_le (by rw[zW];omega)];simp) b4 ?_⟩;have b9:Below w5.heap.size (w5.setCell ⟨B,1,none⟩ (.slice a3 (k+1+(LB.length-k)) a6)) ((w5.setCell ⟨B,1,none⟩ (.slice a3 (k+1+(LB.length-k)) a6)).alloc (.cells #[.int .u8 (n:Int)] 5)):=(j0g _ _).alloc (by simp) _;exact b9.trans (b8.mono (by simp))
    |none=>
     clear c7;obtain⟨h0,rfl⟩:=d4 rfl;obtain rfl:k=0:=by omega
     have hL:LB=[]:=List.eq_nil_of_length_eq_zero h0;subst hL;go_wp2_with (at_builtin;go_loud (refine Zb w2 rfl _ _ 75 rfl (w1.heap.size+1) 87 (.agg #[.string ⟨#[]⟩,.int .i64 0,.slice none 0 0]) 3 48 Tryz.underlying75 Tryz.info87 rfl (by decide) (World.ownsRow_nil _ _ _ _) none 0 0 [] rfl (fun _=>⟨rfl,rfl⟩) (fun ad e=>by cases e) (by rfl) (by rfl) (fun u hu=>by cases hu) (by unfold maxLen;omega) (by omega) (by omega) ?_))
     intro v1 w3 b0 a0;have y0:=a0.cell x0 (by simp[Value.ownBlock]);have y1:=a0.cell x1 (by simp[Value.ownBlock]);have y2:=a0.cell x2 (by simp[Value.ownBlock]);have b3 :=a0.cell c1 (by simp[Value.ownBlock]);have e3:=a0.size;clear x0 x1 x2 c1;go_wp2_with (at_builtin;go_loud (refine Zi w3 rfl _ _ 75 rfl (w1.heap.size+1) 87 (.agg #[.string ⟨#[]⟩,.int .i64 0,.slice none 0 0]) 3 48 Tryz.underlying75 Tryz.info87 rfl (by decide) b0 _ rfl (by rfl) (by rfl) (Q5 _ _ _ _ _) (by unfold maxLen;omega) (by omega) (by omega) ?_))
     intro v2 w4 b1 a1;have e4:=a1.size;have a9 :=a1.cell b3 (fun e=>by have:=(b0.lt B e.symm).1;omega);clear y0 y1 y2 b3;go_wp2_with (at_builtin;go_loud (refine Zb w4 rfl _ _ 75 rfl (w1.heap.size+1) 87 (.agg #[.string ⟨#[]⟩,.int .i64 0,.slice none 0 0]) 3 48 Tryz.underlying75 Tryz.info87 rfl (by decide) b1 none 0 0 [] rfl (fun _=>⟨rfl,rfl⟩) (fun ad e=>by cases e) (by rfl) (by rfl) (fun u hu=>by cases hu) (by unfold maxLen;omega) (by omega) (by omega) ?_))
     intro v3 w5 b4 a4;have e5:=a4.size;have cB:=a4.cell a9 (fun e=>by have:=(b1.lt B e.symm).1;omega);clear a9;have a7:Below w1.heap.size w1 w5:=((c6.grown a0 (by omega) (fun j hj=>by simp[Value.ownBlock]at hj)).grown a1 (by omega) (fun j hj=>by have:=(b0.lt j hj).1;omega)).grown a4 (by omega) (fun j hj=>by have:=(b1.lt j hj).1;omega);have fB:∀o,w5.frozen? ⟨B,o,none⟩=false:=fun o=>(a7.frozen (p:=⟨B,o,none⟩) b6).trans (hR.fr o)
     have d6:=fB 1;have pB:=(a7.cell (p:=⟨B,2,none⟩) b6).trans hR.c2;obtain⟨a3,a6,rfl,_,_,_,_⟩:=za b4;have d8:=vk (w5.setCell ⟨B,1,none⟩ (.slice a3 (0+0+1+0) a6)) w5.heap.size (by simp) (UInt8.ofNat n) (n:Int) (by rw[ZD];omega);clear a0 a1 a4;go_wp2_with fail
     rw[yZ [UInt8.ofNat n] #[UInt8.ofNat n] rfl,Z9];refine(xQ 66 B 66 rfl st.packed (UInt8.ofNat n::name) _ (by simp;omega) (by rw[World.cell?_alloc_past _ _ _ (by simp;omega),z9 _ _ _ _ _ (by omega)];exact pB) (fun o=>by rw[World.frozen?_alloc_past _ _ _ (by simp;omega),World.frozen?_setCell];exact fB o) (by omega) (by simp;omega)).mono ?_;rintro e w' ⟨rfl,w6,b8,rfl⟩;go_wp2;go_end0
     refine⟨rfl,q5 hR d3 a7 (k:=0) (Nat.zero_le _) HP.out (by simp) (by simp[zv]) b4 ?_⟩;have b9:Below w5.heap.size (w5.setCell ⟨B,1,none⟩ (.slice a3 (0+0+1+0) a6)) ((w5.setCell ⟨B,1,none⟩ (.slice a3 (0+0+1+0) a6)).alloc (.cells #[.int .u8 (n:Int)] 5)):=(j0g _ _).alloc (by simp) _;exact b9.trans (b8.mono (by simp))
def zG (w w' :World)(M O:Nat→Prop)(B:Nat)(st' :R.St):Prop:=∃O',RS w' (fun b=>M b∨O' b) O' B st' ∧zj O w w' ∧(∀b,O' b→O b∨w.heap.size≤b)
theorem zG.same {w w' :World}{M O:Nat→Prop}{B:Nat}{st:R.St}(h:RS w M O B st)(hb:Below w.heap.size w w'):zG w w' M O B st:=
 ⟨O,h.kept (Z:=fun _=>False) (zj.of_below hb) (fun _ e=>e.elim) (fun b hb=>by obtain⟨_,_,_,_,h⟩:=h;rcases hb with hb|hb;exact .inl hb;exact .inl (h.sub b hb)) (fun b hb=> .inr hb),zj.of_below hb,fun _ h=> .inl h⟩
theorem RSx.mem_brs {w:World}{M O:Nat→Prop}{B:Nat}{st:R.St}{cv bv:Value}{LB:List (R.Br×Value)}{a0:List (R.Cm×Value×Value)}(hR:RSx w M O B st cv bv LB a0){p:R.Br×Value}(hp:p∈LB):p.1∈st.brs:=by
 rw[←hR.brs];exact List.mem_map_of_mem hp
theorem jz:∀(L:List (R.Cm×Value×Value)) (i:Nat) (h:i<L.length),(Yj L)[i*2]? =some (L[i]'h).2.1
 |p::r,0,_=>by simp[Yj]
 |p::r,i+1,h=>by
  have ih:=jz r i (by simpa using h);unfold Yj at ih⊢;rw[List.flatMap_cons,List.getElem?_append_right (by simp;omega)];rw[show(i+1)*2- [p.2.1,p.2.2].length=i*2 from by simp;omega];simpa using ih
theorem JA (B:Nat)(st:R.St)(n:Nat)(w:World)(M O:Nat→Prop)(h:RS w M O B st)(hn:n≤st.cms.length)(hc:st.cms.length≤255):
  ∃tv,Tr w M tv (R.treeOf st n)∧∀W,Below w.heap.size w W→Calls Tryz.prog 176 #[.pointer (some ⟨B,0,none⟩),.int .i64 (n:Int)] W fun e w' =>e= .returned tv∧w' =W:=by
 by_cases h0:n=0
 ·subst h0
  refine⟨.slice none 0 0,⟨[],rfl,⟨none,0,rfl,j0a _,by unfold maxLen;omega,fun h=>absurd h (Nat.lt_irrefl _)⟩,by simp⟩,fun W _=> ?_⟩;exact GZ B W
 ·obtain⟨cv,bv,LB,a2,hR⟩:=h
  have a7:a2.length=st.cms.length:=by rw[←hR.cms,List.length_map]
  have a0:n-1<a2.length:=by omega
  have e:R.treeOf st n=(a2[n-1]'a0).1.tree:=by
   rw[R.treeOf,if_neg h0,←hR.cms,List.getElem?_map,j0d a0];rfl
  rw[e];refine⟨(a2[n-1]'a0).2.1,hR.ctree _ (j0c a0),fun W hW=> ?_⟩;have a4:=zh hR.crow (zj.of_below (M:=fun _=>False) hW) (fun _ _ e=>e);have c0:=(hW.cell (p:=⟨B,0,none⟩) (hR.lt B hR.own)).trans hR.c0;obtain⟨a,cap,rfl,a8,hm,a5,a6⟩:=za a4
  cases a with
  |none=>have:=(a5 rfl).1;omega
  |some ad=>
   obtain⟨g,rfl,_,hg,_,a1⟩:=a6 ad rfl;have d0:=a1 _ _ (jz a2 (n-1) a0);have a3:(a2[n-1]'a0).2.1.oneCell' =true:=by
    obtain⟨_,_,⟨a,cap,e,_⟩,_⟩:=hR.ctree _ (j0c a0);rw[e];rfl
   obtain⟨m,rfl⟩:∃m,n=m+1:=⟨n-1,by omega⟩
   simp only[Nat.add_sub_cancel]at d0 a3 a0⊢;generalize(a2[m]'a0).2.1=tv at d0 a3⊢;clear a1 a6 a5 a4 e;unfold maxLen at hm;have b0:(((m+1:Nat):Int)==0)=false:=by simp;omega
   go_enter Tryz.func176,Tryz.ntmps176;go_wp2;go_ret;exact⟨rfl,rfl⟩
theorem jT (B:Nat)(st:R.St)(name:List UInt8)(w:World)(M O:Nat→Prop)(h:RS w M O B st)(hM:∀b,M b→b<w.heap.size)(a6:name.length≤maxLen)(a8:st.brs.length≤6)(b0:st.packed.length≤1000000000000)(hh:R.Heads st):
  Calls Tryz.prog 167 #[.pointer (some ⟨B,0,none⟩),.string ⟨name.toArray⟩,.string ⟨#[]⟩,.bool false] w fun e w' =>
   e= .returned (.int .i64 (R.made st name [] false).1)∧zG w w' M O B (R.made st name [] false).2:=by
 have a1:=h;obtain⟨cv,bv,LB,b3,hR⟩:=h;have c1:=hR.c1;obtain⟨a,cap,rfl,b5,hm,a9,b1⟩:=za hR.row;have a4:LB.length=st.brs.length:=by rw[←hR.brs,List.length_map]
 have hq:=kU ⟨name.toArray⟩ w (by simpa[ByteArray.size]using a6);simp only at hq;have a5:=yJ B st [] w M O a1;have a2:=yJ B st name w M O a1;obtain⟨tv,b2,a7⟩:=JA B st 0 w M O a1 (Nat.zero_le _) hh.few;have HL:Hid (LB.length=st.brs.length):=a4;clear b1 a9;unfold maxLen at hm a6
 cases a0:R.isName name
 ·have HR:Hid (R.made st name [] false=(1,st)):=by show _=_;rw[R.made,if_pos a0]
  rw[a0]at hq;go_enter Tryz.func167,Tryz.ntmps167;go_wp2_with fail
  refine hq.mono ?_;rintro e w1 ⟨rfl,rfl⟩;go_wp2_with fail
  refine a5.mono ?_;rintro e w1 ⟨rfl,rfl⟩;go_wp2;go_ret;exact⟨zq (by rw[HR.out]),by rw[HR.out];exact zG.same a1 (j0g _ _)⟩
 ·have b4:name.length≤8:=by simp[R.isName]at a0;exact a0.2.2
  rw[a0]at hq;rcases R.fndI_cases st.brs name with⟨e1,e2⟩|⟨e1,e2⟩
  ·by_cases h6:6≤LB.length
   ·have HR:Hid (R.made st name [] false=(4,st)):=by
     show _=_;rw[R.made,if_neg (by simp[a0]),if_neg (by simp),if_neg (by omega),if_pos (by rw[←HL.out];exact h6)]
    rw[e1]at a2;clear a4 e1 e2;go_enter Tryz.func167,Tryz.ntmps167;go_wp2_with fail
    refine hq.mono ?_;rintro e w1 ⟨rfl,rfl⟩;go_wp2_with fail
    refine a5.mono ?_;rintro e w1 ⟨rfl,rfl⟩;go_wp2_with fail
    refine a2.mono ?_;rintro e w1 ⟨rfl,rfl⟩;go_wp2;go_ret;exact⟨zq (by rw[HR.out]),by rw[HR.out];exact zG.same a1 (j0g _ _)⟩
   ·have HR:Hid (R.made st name [] false=(0,R.headNew st {name:=name,head:=0,work:=R.treeOf st 0})):=by
     show _=_;rw[R.made,if_neg (by simp[a0]),if_neg (by simp),if_neg (by omega),if_neg (by rw[←HL.out];exact h6)];rfl
    have a3:=fun W (hW:W=w)=>kS B st name 0 tv (R.treeOf st 0) W M O (by rw[hW];exact a1) (by rw[hW];exact hM) e1 (by omega) b0 (by omega) (by omega) (by rw[hW];exact a7) (by rw[hW];exact b2)
    rw[e1]at a2;clear a4 e1 e2;go_enter Tryz.func167,Tryz.ntmps167;go_wp2_with fail
    refine hq.mono ?_;rintro e w1 ⟨rfl,rfl⟩;go_wp2_with fail
    refine a5.mono ?_;rintro e w1 ⟨rfl,rfl⟩;go_wp2_with fail
    refine a2.mono ?_;rintro e w1 ⟨rfl,rfl⟩;go_wp2_with fail
    refine(a3 _ rfl).mono ?_;rintro e w2 ⟨rfl,O',g1,g2,g3⟩;go_wp2;go_ret;exact⟨zq (by rw[HR.out]),by rw[HR.out];exact⟨O',g1,g2.mono (fun b e=>e▸hR.own),g3⟩⟩
  ·have HR:Hid (R.made st name [] false=(9,st)):=by
    show _=_;rw[R.made,if_neg (by simp[a0]),if_neg (by simp),if_pos (by omega)]
   rw[e1]at a2;clear a4 e1;go_enter Tryz.func167,Tryz.ntmps167;go_wp2_with fail
   refine hq.mono ?_;rintro e w1 ⟨rfl,rfl⟩;go_wp2_with fail
   refine a5.mono ?_;rintro e w1 ⟨rfl,rfl⟩;go_wp2_with fail
   refine a2.mono ?_;rintro e w1 ⟨rfl,rfl⟩;go_wp2;go_ret;exact⟨zq (by rw[HR.out]),by rw[HR.out];exact zG.same a1 (j0g _ _)⟩
theorem JB (B:Nat)(st:R.St)(name fr:List UInt8)(w:World)(M O:Nat→Prop)(h:RS w M O B st)(hM:∀b,M b→b<w.heap.size)(b0:name.length≤maxLen)(b2:st.brs.length≤6)(b3:st.packed.length≤1000000000000)(hh:R.Heads st):
  Calls Tryz.prog 167 #[.pointer (some ⟨B,0,none⟩),.string ⟨name.toArray⟩,.string ⟨fr.toArray⟩,.bool true] w fun e w' =>
   e= .returned (.int .i64 (R.made st name fr true).1)∧zG w w' M O B (R.made st name fr true).2:=by
 have a1:=h;obtain⟨cv,bv,LB,b5,hR⟩:=h;have c1:=hR.c1;obtain⟨a,cap,rfl,b7,hm,a5,a6⟩:=za hR.row;have HL:Hid (LB.length=st.brs.length):=by show _=_;rw[←hR.brs,List.length_map]
 have hq:=kU ⟨name.toArray⟩ w (by simpa[ByteArray.size]using b0);simp only at hq;have a3:=yJ B st fr w M O a1;have a4:=yJ B st name w M O a1;unfold maxLen at hm b0
 cases a0:R.isName name
 ·have HR:Hid (R.made st name fr true=(1,st)):=by show _=_;rw[R.made,if_pos a0]
  rw[a0]at hq;clear a6 a5;go_enter Tryz.func167,Tryz.ntmps167;go_wp2_with fail
  refine hq.mono ?_;rintro e w1 ⟨rfl,rfl⟩;go_wp2_with fail
  refine a3.mono ?_;rintro e w1 ⟨rfl,rfl⟩;go_wp2;go_ret;exact⟨zq (by rw[HR.out]),by rw[HR.out];exact zG.same a1 (j0g _ _)⟩
 have b6:name.length≤8:=by simp[R.isName]at a0;exact a0.2.2
 rw[a0]at hq;rcases R.fndI_cases st.brs fr with⟨f1,f2⟩|⟨f1,f2⟩
 ·have HR:Hid (R.made st name fr true=(5,st)):=by
   show _=_;rw[R.made,if_neg (by simp[a0]),if_pos ⟨rfl,by omega⟩]
  rw[f1]at a3;clear a6 a5 f1 f2;go_enter Tryz.func167,Tryz.ntmps167;go_wp2_with fail
  refine hq.mono ?_;rintro e w1 ⟨rfl,rfl⟩;go_wp2_with fail
  refine a3.mono ?_;rintro e w1 ⟨rfl,rfl⟩;go_wp2;go_ret;exact⟨zq (by rw[HR.out]),by rw[HR.out];exact zG.same a1 (j0g _ _)⟩
 rw[f1]at a3;rcases R.fndI_cases st.brs name with⟨e1,e2⟩|⟨e1,e2⟩
 ·by_cases h6:6≤LB.length
  ·have HR:Hid (R.made st name fr true=(4,st)):=by
    show _=_;rw[R.made,if_neg (by simp[a0]),if_neg (by omega),if_neg (by omega),if_pos (by rw[←HL.out];exact h6)]
   rw[e1]at a4;clear a6 a5 e1 e2 f1 f2;go_enter Tryz.func167,Tryz.ntmps167;go_wp2_with fail
   refine hq.mono ?_;rintro e w1 ⟨rfl,rfl⟩;go_wp2_with fail
   refine a3.mono ?_;rintro e w1 ⟨rfl,rfl⟩;go_wp2_with fail
   refine a4.mono ?_;rintro e w1 ⟨rfl,rfl⟩;go_wp2;go_ret;exact⟨zq (by rw[HR.out]),by rw[HR.out];exact zG.same a1 (j0g _ _)⟩
  ·have a7:R.fnd st.brs fr<LB.length:=by rw[HL.out];exact f2
   have HH:Hid (R.headOf st fr=(LB[R.fnd st.brs fr]'a7).1.head):=by
    show _=_;rw[R.headOf,j0d f2];simp[←hR.brs]
   have a9:(LB[R.fnd st.brs fr]'a7).1.head≤st.cms.length:=hh.head _ (hR.mem_brs (j0c a7))
   cases a with
   |none=>have:=(a5 rfl).1;omega
   |some ad=>
    obtain⟨g,rfl,_,hg,_,a2⟩:=a6 ad rfl;obtain⟨-,d1, -⟩:=ZS a2 _ a7;have HR:Hid (R.made st name fr true=(0,R.headNew st {name:=name,head:=R.headOf st fr,work:=R.treeOf st (R.headOf st fr)})):=by
     show _=_;rw[R.made,if_neg (by simp[a0]),if_neg (by omega),if_neg (by omega),if_neg (by rw[←HL.out];exact h6)];rfl
    rw[HH.out]at HR;generalize(LB[R.fnd st.brs fr]'a7).1.head=n at d1 a9 HR;obtain⟨tv,b4,b1⟩:=JA B st n w M O a1 a9 hh.few;have hf:=hh.few;have a8:=fun W (hW:W=w)=>kS B st name n tv (R.treeOf st n) W M O (by rw[hW];exact a1) (by rw[hW];exact hM) e1 (by omega) b3 (by omega) (by omega) (by rw[hW];exact b1) (by rw[hW];exact b4)
    rw[e1]at a4;generalize R.fnd st.brs fr=i at*;clear a6 a5 e1 e2 f1 a2 HH;go_enter Tryz.func167,Tryz.ntmps167;go_wp2_with fail
    refine hq.mono ?_;rintro e w1 ⟨rfl,rfl⟩;go_wp2_with fail
    refine a3.mono ?_;rintro e w1 ⟨rfl,rfl⟩;go_wp2_with fail
    refine a4.mono ?_;rintro e w1 ⟨rfl,rfl⟩;go_wp2_with fail
    refine(a8 _ rfl).mono ?_;rintro e w2 ⟨rfl,O',g1,g2,g3⟩;go_wp2;go_ret;exact⟨zq (by rw[HR.out]),by rw[HR.out];exact⟨O',g1,g2.mono (fun b e=>e▸hR.own),g3⟩⟩
 ·have HR:Hid (R.made st name fr true=(9,st)):=by
   show _=_;rw[R.made,if_neg (by simp[a0]),if_neg (by omega),if_pos (by omega)]
  rw[e1]at a4;clear a6 a5 e1 f1;go_enter Tryz.func167,Tryz.ntmps167;go_wp2_with fail
  refine hq.mono ?_;rintro e w1 ⟨rfl,rfl⟩;go_wp2_with fail
  refine a3.mono ?_;rintro e w1 ⟨rfl,rfl⟩;go_wp2_with fail
  refine a4.mono ?_;rintro e w1 ⟨rfl,rfl⟩;go_wp2;go_ret;exact⟨zq (by rw[HR.out]),by rw[HR.out];exact zG.same a1 (j0g _ _)⟩
theorem ON (B:Nat)(st:R.St)(name:List UInt8)(w:World)(M O:Nat→Prop)(h:RS w M O B st)(hM:∀b,M b→b<w.heap.size)(a1:name.length≤maxLen)(a0:st.brs.length≤6)(a2:st.packed.length≤1000000000000)(hh:R.Heads st):
  Calls Tryz.prog 118 #[.pointer (some ⟨B,0,none⟩),.string ⟨name.toArray⟩] w fun e w' =>
   e= .returned (.int .i64 (R.made st name [] false).1)∧zG w w' M O B (R.made st name [] false).2:=by
 go_enter Tryz.func118,Tryz.ntmps118;go_wp2_with fail
 refine(jT B st name _ M O h hM a1 a0 a2 hh).mono ?_;rintro e w1 ⟨rfl,hs⟩;go_wp2;go_ret;exact⟨rfl,hs⟩
theorem ff (B:Nat)(st:R.St)(name fr:List UInt8)(w:World)(M O:Nat→Prop)(h:RS w M O B st)(hM:∀b,M b→b<w.heap.size)(a1:name.length≤maxLen)(a0:st.brs.length≤6)(a2:st.packed.length≤1000000000000)(hh:R.Heads st):
  Calls Tryz.prog 119 #[.pointer (some ⟨B,0,none⟩),.string ⟨name.toArray⟩,.string ⟨fr.toArray⟩] w fun e w' =>
   e= .returned (.int .i64 (R.made st name fr true).1)∧zG w w' M O B (R.made st name fr true).2:=by
 go_enter Tryz.func119,Tryz.ntmps119;go_wp2_with fail
 refine(JB B st name fr _ M O h hM a1 a0 a2 hh).mono ?_;rintro e w1 ⟨rfl,hs⟩;go_wp2;go_ret;exact⟨rfl,hs⟩
theorem fc (B:Nat)(st:R.St)(name:List UInt8)(w:World)(M O:Nat→Prop)(h:RS w M O B st)(hf:R.Fine st):
  Calls Tryz.prog 123 #[.pointer (some ⟨B,0,none⟩),.string ⟨name.toArray⟩] w fun e w' =>
   e= .returned (.tuple #[.string ⟨(R.shown st name).1.toArray⟩,.int .i64 (R.shown st name).2])∧Below w.heap.size w w' :=by
 have a7:=h;obtain⟨cv,bv,LB,a9,hR⟩:=h;have c1:=hR.c1;obtain⟨a,cap,rfl,b1,hm,a3,a4⟩:=za hR.row;have HL:Hid (LB.length=st.brs.length):=by show _=_;rw[←hR.brs,List.length_map]
 have a2:=yJ B st name w M O a7;unfold maxLen at hm;rcases R.fndI_cases st.brs name with⟨f1,f2⟩|⟨f1,f2⟩
 ·have HS:Hid (R.shown st name=([],5)):=by show _=_;rw[R.shown,if_pos (by omega)]
  rw[HS.out];rw[f1]at a2;clear a4 a3 f1 f2;go_enter Tryz.func123,Tryz.ntmps123;go_wp2_with fail
  refine a2.mono ?_;rintro e w1 ⟨rfl,rfl⟩;go_wp2;go_ret2;exact⟨rfl,j0g _ _⟩
 ·have a1:R.fnd st.brs name<LB.length:=by rw[HL.out];exact f2
  have hw:R.workOf st name=(LB[R.fnd st.brs name]'a1).1.work:=by
   rw[R.workOf,j0d f2];simp[←hR.brs]
  have HS:Hid (R.shown st name=(R.Written (LB[R.fnd st.brs name]'a1).1.work,0)):=by show _=_;rw[R.shown,if_neg (by omega),hw]
  have a6:=hR.work _ (j0c a1);have a5:=hR.mem_brs (j0c a1);have hg:=hf.good _ a5;have hl:=hf.few _ a5;rw[f1]at a2
  cases a with
  |none=>have:=(a3 rfl).1;omega
  |some ad=>
   obtain⟨g,rfl,_,b0,_,a0⟩:=a4 ad rfl;obtain⟨-, -,d2⟩:=ZS a0 _ a1;rw[HS.out];have a8:(LB[R.fnd st.brs name]'a1).2.oneCell' =true:=by
    obtain⟨_,_,⟨a,cap,e,_⟩,_⟩:=a6;rw[e];rfl
   generalize(LB[R.fnd st.brs name]'a1).1.work=t at*;generalize(LB[R.fnd st.brs name]'a1).2=tv at*;generalize R.fnd st.brs name=i at*;clear a4 a3 f1 a0 hw HS;go_enter Tryz.func123,Tryz.ntmps123;go_wp2_with fail
   refine a2.mono ?_;rintro e w1 ⟨rfl,rfl⟩;go_wp2_with fail
   refine(Xc tv t _ M a6 hg (by omega)).mono ?_;rintro e w2 ⟨rfl,hb⟩;go_wp2;go_ret2;exact⟨rfl,hb⟩
theorem j8 {w w5 w6:World}{M O:Nat→Prop}{B:Nat}{st:R.St}{cv bv:Value}{LB LB' :List (R.Br×Value)}{a7:List (R.Cm×Value×Value)}(hR:RSx w M O B st cv bv LB a7){v3:Value}(a5:Below w.heap.size w w5)
  (b2:∀p∈LB',Tr w M p.2 p.1.work)(a8:w5.ownsRow w.heap.size 87 3 v3 LB'.length (zv LB'))(a6:Below w5.heap.size (w5.setCell ⟨B,1,none⟩ v3) w6)(packed:List UInt8):
  ∃O',RS (w6.setCell ⟨B,2,none⟩ (.string ⟨packed.toArray⟩)) (fun b=>M b∨O' b) O' B {st with brs:=LB'.map (·.1),packed:=packed}∧zj (fun b=>b=B) w (w6.setCell ⟨B,2,none⟩ (.string ⟨packed.toArray⟩))∧(∀b,O' b→O b∨w.heap.size≤b):=by
 have a3:=hR.lt B hR.own;have a9:=a5.size;have b1:=a6.size;simp only[World.size_setCell]at b1;have b0:zj (fun b=>b=B) w5 w6:=((zj.refl (fun b=>b=B) w5).setCell (p:=⟨B,1,none⟩) (.inl rfl) v3).trans (zj.of_below (by rw[World.size_setCell];exact a6));have a0 :=b0.setCell (p:=⟨B,2,none⟩) (.inl rfl) (.string ⟨packed.toArray⟩);have hK:=(zj.of_below (M:=fun b=>b=B) a5).trans a0;have a1:∀g,v3.ownBlock=some g→w.heap.size≤g∧g<w5.heap.size:=fun g hg=>a8.lt g hg
 have e6:∀o,w6.cell? ⟨B,o,none⟩=(w5.setCell ⟨B,1,none⟩ v3).cell? ⟨B,o,none⟩:=fun o=>a6.cell (p:=⟨B,o,none⟩) (j0b a3 a9)
 have e5:∀o,w5.cell? ⟨B,o,none⟩=w.cell? ⟨B,o,none⟩:=fun o=>a5.cell (p:=⟨B,o,none⟩) a3
 have f6:∀o,w6.frozen? ⟨B,o,none⟩=w.frozen? ⟨B,o,none⟩:=fun o=>by
  rw[a6.frozen (p:=⟨B,o,none⟩) (j0b a3 a9),World.frozen?_setCell,a5.frozen (p:=⟨B,o,none⟩) a3]
 have a4:∀b,(M b∨O b∨v3.ownBlock=some b)→M b∨w.heap.size≤b:=by
  rintro b (h|h|h)
  ·exact .inl h
  ·exact .inl (hR.sub b h)
  ·exact .inr (a1 b h).1
 have a2:∀b,b=B→M b:=fun b e=>e▸hR.sub B hR.own
 refine⟨fun b=>O b∨v3.ownBlock=some b,⟨cv,v3,LB',a7,fun b hb=> .inr hb,?_,.inl hR.own,?_,?_,?_,?_,rfl,?_,?_,?_,hR.cms,?_,?_,?_,?_,hR.memo.keep (fun o ho=>by rw[z9 _ _ _ _ _ (by omega),e6,z9 _ _ _ _ _ (by omega),e5]) hK a2 a4⟩,hK,?_⟩
 ·rintro b (h|h)
  ·exact j0b (hR.lt b h) hK.size
  ·exact j0b (a1 b h).2 a0.size
 ·rw[z9 _ _ _ _ _ (by omega),e6,z9 _ _ _ _ _ (by omega),e5];exact hR.c0
 ·rw[z9 _ _ _ _ _ (by omega),e6]
  exact zD _ _ _ _ _ ((e5 1).trans hR.c1)
 ·refine zD _ _ _ _ (.string ⟨st.packed.toArray⟩) ?_
  rw[e6,z9 _ _ _ _ _ (by omega),e5];exact hR.c2
 ·intro o;rw[World.frozen?_setCell,f6];exact hR.fr o
 ·exact zh (vC a8 (Nat.zero_le _)) a0 (fun g hg e=>by have:=(a1 g hg).1;omega)
 ·intro g hg
  exact⟨.inr hg,by have:=(a1 g hg).1;omega⟩
 ·exact fun p hp=>(b2 p hp).step hK a2 a4
 ·exact zh hR.crow hK (fun g hg e=>(hR.crowO g hg).2.1 e)
 ·intro g hg
  have h1:=hR.crowO g hg;exact⟨.inl h1.1,h1.2.1,fun e=>by have:=(a1 g e).1;have:=hR.lt g h1.1;omega⟩
 ·exact fun p hp=>(hR.ctree p hp).step hK a2 a4
 ·exact fun p hp=>(hR.cpar p hp).step hK a2 a4
 ·rintro b (h|h)
  ·exact .inl h
  ·exact .inr (a1 b h).1
theorem G4 (B:Nat)(st:R.St)(name:List UInt8)(w:World)(M O:Nat→Prop)(h:RS w M O B st)(hf:R.Fine st)(d9:st.packed.length≤1000000000000):
  Calls Tryz.prog 116 #[.pointer (some ⟨B,0,none⟩),.int .u8 68,.string ⟨name.toArray⟩] w fun e w' =>
   e= .returned (.bool (decide ((R.dropped st name).1=0)))∧zG w w' M O B (R.dropped st name).2:=by
 have b8:=h;obtain⟨cv,bv,LB,d3,hR⟩:=h;have c1:=hR.c1;have b4:=hR.lt B hR.own;obtain⟨a,cap,rfl,d7,hm,b6,b7⟩:=za hR.row;have HL:Hid (LB.length=st.brs.length):=by show _=_;rw[←hR.brs,List.length_map]
 have b1:=yJ B st name w M O b8;unfold maxLen at hm;rcases R.fndI_cases st.brs name with⟨f1,f2⟩|⟨f1,f2⟩
 ·have HS:Hid (R.dropped st name=(5,st)):=by show _=_;rw[R.dropped,if_pos (by omega)]
  rw[HS.out];rw[f1]at b1;clear b7 b6 f1 f2;go_enter Tryz.func116,Tryz.ntmps116;go_wp2_with fail
  refine b1.mono ?_;rintro e w1 ⟨rfl,rfl⟩;go_wp2;go_ret;exact⟨zm (by simp),zG.same b8 (j0g _ _)⟩
 ·have d4:R.fnd st.brs name<LB.length:=by rw[HL.out];exact f2
  have HS:Hid (R.dropped st name=(0,{st with brs:=st.brs.take (R.fnd st.brs name)++st.brs.drop (R.fnd st.brs name+1),packed:=st.packed++R.record 68 name})):=by show _=_;rw[R.dropped,if_neg (by omega)]
  have d8:name.length≤8:=by
   have:=hf.name _ (j0c f2);rwa[R.fnd_name _ _ f2]at this
  have h6:LB.length≤6:=by rw[HL.out];exact hf.many
  rw[f1]at b1
  cases a with
  |none=>have:=(b6 rfl).1;omega
  |some ad=>
   obtain⟨g,rfl,_,d5,_,a1⟩:=b7 ad rfl;rw[HS.out];generalize R.fnd st.brs name=k at*;have a7:=q7 LB hR.work;have d6:=hR.lt g (hR.rowO g rfl).1;clear b7 b6 f1 HS;by_cases c6:cap=k+1
   ·subst c6
    go_enter Tryz.func116,Tryz.ntmps116;go_wp2_with fail
    refine b1.mono ?_;rintro e w1 ⟨rfl,rfl⟩;go_wp2_with (at_builtin;go_loud (refine Zb _ rfl _ _ 75 rfl w1.heap.size 87 (.agg #[.string ⟨#[]⟩,.int .i64 0,.slice none 0 0]) 3 48 Tryz.underlying75 Tryz.info87 rfl (by decide) (World.ownsRow_nil _ _ _ _) (some ⟨g,0,none⟩) k (k+1) ((zv LB).take (k*3)) (by rw[List.length_take,zW];omega) (fun e=>by cases e) (xf a1) (by rfl) (by rfl) (fun u hu=>a7 u (List.mem_of_mem_take hu)) (by unfold maxLen;omega) (by omega) (by omega) ?_))
    intro v1 w3 a6 a0;have a8 :=a0.cell c1 (by simp[Value.ownBlock]);have a2:∀j u,(zv LB)[j]? =some u→w3.cell? ⟨g,j,none⟩=some u:=fun j u hu=>a0.cell (a1 j u hu) (by simp[Value.ownBlock])
    have c8:=a0.size;clear c1 a1;go_wp2_with (at_builtin;go_loud (refine Zb w3 rfl _ _ 75 rfl w1.heap.size 87 (.agg #[.string ⟨#[]⟩,.int .i64 0,.slice none 0 0]) 3 48 Tryz.underlying75 Tryz.info87 rfl (by decide) a6 (some ⟨g,0,none⟩) 0 0 [] (by simp) (fun e=>by cases e) (fun ad _ j u hu=>by simp at hu) (by rfl) (by rfl) (fun u hu=>by cases hu) (by unfold maxLen;omega) (by omega) (by omega) ?_))
    intro v3 w5 b2 a4;have c9:=a4.size;have cB:=a4.cell a8 (fun e=>by have:=(a6.lt B e.symm).1;omega);clear a8 a2;have a5:Below w1.heap.size w1 w5:=((j0g _ _).grown a0 (j0a _) (fun j hj=>by simp[Value.ownBlock]at hj)).grown a4 (by omega) (fun j hj=>by have:=(a6.lt j hj).1;omega);have fB:∀o,w5.frozen? ⟨B,o,none⟩=false:=fun o=>(a5.frozen (p:=⟨B,o,none⟩) b4).trans (hR.fr o)
    have b9:=fB 1;have pB:=(a5.cell (p:=⟨B,2,none⟩) b4).trans hR.c2;have a9:(LB.take k++LB.drop (k+1)).length=LB.length-1:=by simp;omega
    have b3:w5.ownsRow w1.heap.size 87 3 v3 (LB.take k++LB.drop (k+1)).length (zv (LB.take k++LB.drop (k+1))):=by
     rw[a9,Yp,xX,xY,List.drop_eq_nil_of_le (by rw[zW];omega)];have hq:LB.length-1=k+0:=by omega
     rw[hq];simpa using b2
    clear b2;obtain⟨a3,b5,rfl,_,_,_,_⟩:=za b3;clear a0 a4;go_wp2_with fail
    refine(xQ 68 B 68 rfl st.packed name _ (by simp;omega) (by rw[z9 _ _ _ _ _ (by omega)];exact pB) (fun o=>by rw[World.frozen?_setCell];exact fB o) (by omega) (by omega)).mono ?_;rintro e w' ⟨rfl,w6,b0,rfl⟩;go_wp2;go_ret;rw[World.size_setCell,←a9]at b0;obtain⟨O',g1,g2,g3⟩:=j8 hR a5 (fun p hp=>hR.work p (by rcases List.mem_append.1 hp with h|h;exact List.mem_of_mem_take h;exact List.mem_of_mem_drop h)) b3 b0 (st.packed++R.record 68 name);refine⟨zm (by simp),O',?_,g2.mono (fun b e=>e▸hR.own),g3⟩;have e:(LB.take k++LB.drop (k+1)).map (·.1)=st.brs.take k++st.brs.drop (k+1):=by rw[List.map_append,List.map_take,List.map_drop,hR.brs]
    rw[e]at g1;exact g1
   ·have c7 :k+1<cap:=by omega
    go_enter Tryz.func116,Tryz.ntmps116;go_wp2_with fail
    refine b1.mono ?_;rintro e w1 ⟨rfl,rfl⟩;go_wp2_with (at_builtin;go_loud (refine Zb _ rfl _ _ 75 rfl w1.heap.size 87 (.agg #[.string ⟨#[]⟩,.int .i64 0,.slice none 0 0]) 3 48 Tryz.underlying75 Tryz.info87 rfl (by decide) (World.ownsRow_nil _ _ _ _) (some ⟨g,0,none⟩) k cap ((zv LB).take (k*3)) (by rw[List.length_take,zW];omega) (fun e=>by cases e) (xf a1) (by rfl) (by rfl) (fun u hu=>a7 u (List.mem_of_mem_take hu)) (by unfold maxLen;omega) (by omega) (by omega) ?_))
    intro v1 w3 a6 a0;have a8 :=a0.cell c1 (by simp[Value.ownBlock]);have a2:∀j u,(zv LB)[j]? =some u→w3.cell? ⟨g,j,none⟩=some u:=fun j u hu=>a0.cell (a1 j u hu) (by simp[Value.ownBlock])
    have c8:=a0.size;clear c1 a1;go_wp2_with (at_builtin;go_loud (refine Zb w3 rfl _ _ 75 rfl w1.heap.size 87 (.agg #[.string ⟨#[]⟩,.int .i64 0,.slice none 0 0]) 3 48 Tryz.underlying75 Tryz.info87 rfl (by decide) a6 (some ⟨g,(k+1)*3,none⟩) (LB.length-(k+1)) (cap-(k+1)) ((zv LB).drop ((k+1)*3)) (by rw[List.length_drop,zW];omega) (fun e=>by cases e) (Km a2) (by rfl) (by rfl) (fun u hu=>a7 u (List.mem_of_mem_drop hu)) (by unfold maxLen;omega) (by omega) (by omega) ?_))
    intro v3 w5 b2 a4;have c9:=a4.size;have cB:=a4.cell a8 (fun e=>by have:=(a6.lt B e.symm).1;omega);clear a8 a2;have a5:Below w1.heap.size w1 w5:=((j0g _ _).grown a0 (j0a _) (fun j hj=>by simp[Value.ownBlock]at hj)).grown a4 (by omega) (fun j hj=>by have:=(a6.lt j hj).1;omega);have fB:∀o,w5.frozen? ⟨B,o,none⟩=false:=fun o=>(a5.frozen (p:=⟨B,o,none⟩) b4).trans (hR.fr o)
    have b9:=fB 1;have pB:=(a5.cell (p:=⟨B,2,none⟩) b4).trans hR.c2;have a9:(LB.take k++LB.drop (k+1)).length=LB.length-1:=by simp;omega
    have b3:w5.ownsRow w1.heap.size 87 3 v3 (LB.take k++LB.drop (k+1)).length (zv (LB.take k++LB.drop (k+1))):=by
     rw[a9,Yp,xX,xY];have hq:LB.length-1=k+(LB.length-(k+1)):=by omega
     rw[hq];simpa using b2
    clear b2;obtain⟨a3,b5,rfl,_,_,_,_⟩:=za b3;clear a0 a4;go_wp2_with fail
    refine(xQ 68 B 68 rfl st.packed name _ (by simp;omega) (by rw[z9 _ _ _ _ _ (by omega)];exact pB) (fun o=>by rw[World.frozen?_setCell];exact fB o) (by omega) (by omega)).mono ?_;rintro e w' ⟨rfl,w6,b0,rfl⟩;go_wp2;go_ret;rw[World.size_setCell,←a9]at b0;obtain⟨O',g1,g2,g3⟩:=j8 hR a5 (fun p hp=>hR.work p (by rcases List.mem_append.1 hp with h|h;exact List.mem_of_mem_take h;exact List.mem_of_mem_drop h)) b3 b0 (st.packed++R.record 68 name);refine⟨zm (by simp),O',?_,g2.mono (fun b e=>e▸hR.own),g3⟩;have e:(LB.take k++LB.drop (k+1)).map (·.1)=st.brs.take k++st.brs.drop (k+1):=by rw[List.map_append,List.map_take,List.map_drop,hR.brs]
    rw[e]at g1;exact g1
theorem fg (B:Nat)(st:R.St)(name:List UInt8)(w:World)(M O:Nat→Prop)(h:RS w M O B st)(hf:R.Fine st)(a0:st.packed.length≤1000000000000):
  Calls Tryz.prog 120 #[.pointer (some ⟨B,0,none⟩),.string ⟨name.toArray⟩] w fun e w' =>
   e= .returned (.int .i64 (R.dropped st name).1)∧zG w w' M O B (R.dropped st name).2:=by
 have hd:(R.dropped st name).1=0∨(R.dropped st name).1=5:=by
  unfold R.dropped;split
  ·exact .inr rfl
  ·exact .inl rfl
 generalize hD:(R.dropped st name).1=d at hd;have HD:Hid ((R.dropped st name).1=d):=hD;clear hD;have hT:=G4 B st name w M O h hf a0;rw[HD.out]at hT;rcases hd with rfl|rfl
 all_goals
  go_enter Tryz.func120,Tryz.ntmps120;go_wp2_with fail
  refine hT.mono ?_;rintro e w1 ⟨rfl,hs⟩;go_wp2;go_ret;exact⟨rfl,hs⟩
theorem Zm {w:World}{base:Nat}{e:TypeId}{size:Nat}{g n cap:Nat}{xs:List Value}(h:w.ownsRow base e size (.slice (some ⟨g,0,none⟩) n cap) n xs)(j:Nat)(hj:j<xs.length)(u:Value):
  (w.setCell ⟨g,j,none⟩ u).ownsRow base e size (.slice (some ⟨g,0,none⟩) n cap) n (xs.set j u):=by
 obtain⟨h1,h2⟩:=h;refine⟨by rw[List.length_set];exact h1,?_⟩;rcases h2 with⟨h2,_⟩|⟨g',a2,a1,hv,hg,hh,hn,a3,hs,ht⟩
 ·cases h2
 ·injection hv with ha _ a0
  injection ha with ha
  injection ha with ha _ _
  subst ha a0;refine .inr ⟨g,cap,a1.setIfInBounds j u,rfl,hg,heap_setCell_same w g j a1 e u hh,hn,a3,by simpa using hs,?_⟩;rw[←ht];have a4:j<n*size:=by omega
  rw[Array.toList_setIfInBounds,List.take_set]
theorem QG:∀(L:List (R.Br×Value)) (i:Nat) (h:i<L.length) (tv:Value) (t:List R.Leaf),zv (L.set i ({(L[i]'h).1 with work:=t},tv))=(zv L).set (i*3+2) tv
 |p::r,0,_,tv,t=>by simp[zv]
 |p::r,i+1,h,tv,t=>by
  have ih:=QG r i (by simpa using h) tv t;unfold zv at ih⊢;simp only[List.set_cons_succ,List.flatMap_cons,List.getElem_cons_succ];rw[ih,show(i+1)*3+2=(i*3+2)+3 from by omega];simp
theorem xj {w w5:World}{M O:Nat→Prop}{B:Nat}{st:R.St}{cv:Value}{g cap:Nat}{LB:List (R.Br×Value)}{a3:List (R.Cm×Value×Value)}(hR:RSx w M O B st cv (.slice (some ⟨g,0,none⟩) LB.length cap) LB a3)
  {i:Nat}(hi:i<LB.length){tv:Value}{t:List R.Leaf}(a7:Below w.heap.size w w5)(a9:Tr w5 M tv t):
  zG w (w5.setCell ⟨g,i*3+2,none⟩ tv) M O B (R.setWork st i t):=by
 have a1:=hR.rowO g rfl;have b0:=hR.lt g a1.1;have hK:zj (fun b=>b=g) w (w5.setCell ⟨g,i*3+2,none⟩ tv):=(zj.of_below (M:=fun b=>b=g) a7).setCell (p:=⟨g,i*3+2,none⟩) (.inl rfl) tv;have a8:zj (fun b=>b=g) w5 (w5.setCell ⟨g,i*3+2,none⟩ tv):=(zj.refl (fun b=>b=g) w5).setCell (p:=⟨g,i*3+2,none⟩) (.inl rfl) tv;have a0:∀b,b=g→M b:=fun b e=>e▸hR.sub g a1.1
 have a2:∀b,(M b∨O b)→M b∨w.heap.size≤b:=by
  rintro b (h|h)
  ·exact .inl h
  ·exact .inl (hR.sub b h)
 have a4:∀b,(M b∨O b)→M b∨w5.heap.size≤b:=by
  rintro b (h|h)
  ·exact .inl h
  ·exact .inl (hR.sub b h)
 have a6:=hR.lt B hR.own;have eB:∀o,(w5.setCell ⟨g,i*3+2,none⟩ tv).cell? ⟨B,o,none⟩=w.cell? ⟨B,o,none⟩:=fun o=>hK.cell (p:=⟨B,o,none⟩) a6 (fun e=>a1.2 e.symm)
 have fB:∀o,(w5.setCell ⟨g,i*3+2,none⟩ tv).frozen? ⟨B,o,none⟩=w.frozen? ⟨B,o,none⟩:=fun o=>hK.frozen (p:=⟨B,o,none⟩) a6 (fun e=>a1.2 e.symm)
 have a5:(LB.set i ({(LB[i]'hi).1 with work:=t},tv)).length=LB.length:=by simp
 refine⟨O,⟨cv,.slice (some ⟨g,0,none⟩) LB.length cap,LB.set i ({(LB[i]'hi).1 with work:=t},tv),a3,fun b hb=> .inr hb,fun b hb=>j0b (hR.lt b hb) hK.size,hR.own,by rw[eB];exact hR.c0,by rw[eB];exact hR.c1,by rw[eB];exact hR.c2,fun o=>by rw[fB];exact hR.fr o,?_,?_,hR.rowO,?_,(show a3.map (·.1)=(R.setWork st i t).cms from hR.cms),?_,hR.crowO,?_,?_,hR.memo.keep (fun o _=>eB o) hK a0 a2⟩,hK.mono (fun b e=>e▸a1.1),fun b hb=> .inl hb⟩
 ·show _=(R.setWork st i t).brs
  unfold R.setWork;dsimp only;rw[←hR.brs,List.getElem?_map,j0d hi,List.map_set];rfl
 ·rw[a5,QG]
  exact Zm (zw hR.row a7) _ (by rw[zW];omega) tv
 ·intro p hp
  rcases List.mem_or_eq_of_mem_set hp with hp|rfl
  ·exact(hR.work p hp).step hK a0 a2
  ·exact a9.step a8 a0 a4
 ·exact zh hR.crow hK (fun q hq e=>(hR.crowO q hq).2.2 (by rw[e];rfl))
 ·exact fun p hp=>(hR.ctree p hp).step hK a0 a2
 ·exact fun p hp=>(hR.cpar p hp).step hK a0 a2
