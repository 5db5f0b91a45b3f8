import Derived.Test.YtolgebdmffcemaaGreatDoorQ30
import Derived.Test.YtolgebdmffcemaaGreatDoorQ25
import Derived.Test.YtolgebdmffcemaaGreatDoorQ28
import Derived.Test.YtolgebdmffcemaaGreatDoorQ22
set_option linter.all false
set_option maxHeartbeats 20000000
set_option maxRecDepth 1000000
namespace Go.Proofs.YtolgebdmffcemaaGreatDoor
open Go.RowKit
def opC (k wi n m:Int)(s t u:List UInt8):Array Value:= #[.int .i64 k,.int .i64 wi,.int .i64 n,.int .i64 m,.string ⟨s.toArray⟩,.string ⟨t.toArray⟩,.string ⟨u.toArray⟩]
def xZ (K:Nat)(L:List SP):Prop:=∀(j:Nat) (h:j<L.length),L[j].sx=L[j].sy∧L[j].sy.packed.length≤K
def Goes (w w' :World)(h0 Wb:Nat)(len nm la K:Nat):Prop:=∃O L' names nums last,LW w' h0 Wb O L' names nums last∧L'.length=len∧xZ K L' ∧names.length≤nm∧last≤la∧Below h0 w w'
theorem yD (st:R.St)(kind:Int)(a0 path:List UInt8)(n:Int)(text:List UInt8):(R.change st kind a0 path n text).2.packed=st.packed:=by
 unfold R.change;split
 ·rfl
 ·split
  ·rfl
  ·split
   ·rfl
   ·rfl
theorem UP (c:UInt8)(b:List UInt8):(R.record c b).length=b.length+4:=by simp[R.record,R.recHead]
theorem VT (st:R.St)(name fr:List UInt8)(a0:Bool):(R.made st name fr a0).2.packed.length≤st.packed.length+20:=by
 unfold R.made;split
 ·simp
 ·rename_i hn
  have hl:name.length≤8:=ZA name (by simpa using hn);split
  ·simp
  ·split
   ·simp
   ·split
    ·simp
    ·simp only[R.headNew,List.length_append,UP,List.length_cons];omega
theorem Kl (st:R.St)(h:Inv st)(name:List UInt8):(R.dropped st name).2.packed.length≤st.packed.length+20:=by
 unfold R.dropped;split
 ·simp
 ·rename_i hf
  have hl:name.length≤8:=by
   have a0:R.fnd st.brs name<st.brs.length:=by
    rcases R.fndI_cases st.brs name with e|e
    ·rw[e.1]at hf;omega
    ·exact e.2
   have:=h.names _ (j0c a0);rw[R.fnd_name _ _ a0]at this;exact ZA name this
  simp only[List.length_append,UP];omega
theorem Kx {K K' :Nat}{L L1 L2:List SP}{i:Nat}{st:R.St}(hA:xZ K L)(hK:K≤K')(hi:i<L.length)(l1:L1.length=L.length)(l2:L2.length=L1.length)(x1:∃h1:i<L1.length,L1[i].sx=st)(o1:∀(j:Nat) (hj:j<L.length) (a0:j<L1.length),j≠i→L1[j]=L[j])
  (x2:∃h2:i<L2.length,L2[i].sy=st∧∃h1:i<L1.length,L2[i].sx=L1[i].sx)(o2:∀(j:Nat) (hj:j<L1.length) (a0:j<L2.length),j≠i→L2[j]=L1[j])(hp:st.packed.length≤K'):xZ K' L2:=by
 intro j hj;by_cases e:j=i
 ·subst e
  obtain⟨_,e1⟩:=x1;obtain⟨_,e2,_,e3⟩:=x2;rw[e3,e2,e1];exact⟨rfl,hp⟩
 ·rw[o2 j (by omega) hj e,o1 j (by omega) (by omega) e]
  have:=hA j (by omega);exact⟨this.1,by omega⟩
theorem Tryz.info85:(Tryz.prog.info? 85).map (fun i=>(i.zero,i.size,i.bytes))=some (some (.agg #[.pointer none,.pointer none]),2,16):=by kernel_rfl
theorem LWx.newAll {w w5:World}{M O M' :Nat→Prop}{Wb:Nat}{av:Value}{ps a7 :List (Nat×Nat)}{nv tv uv kv:Value}{names:List (Value×List UInt8)}{a4:List (Value×Int)}{last:Nat}(h:LWx w M O Wb av ps nv tv uv kv names a4 last){v3:Value}
  (hK:zj (fun b=>av.ownBlock=some b) w w5)(a2:w5.ownsRow 0 85 2 v3 a7.length (xE a7))(a9:∀g,v3.ownBlock=some g→av.ownBlock=some g∨w.heap.size≤g)
  (hM:∀b,M' b→M b∨w.heap.size≤b)(b0:∀b,(O b∨v3.ownBlock=some b)→M' b):
  LWx (w5.setCell ⟨Wb,0,none⟩ v3) M' (fun b=>O b∨v3.ownBlock=some b) Wb v3 a7 nv tv uv kv names a4 last∧zj O w (w5.setCell ⟨Wb,0,none⟩ v3):=by
 have hW:=h.lt Wb h.own;have a5:av.ownBlock≠some Wb:=fun e=>(h.aO _ e).2.1 rfl
 have a1:zj (fun b=>av.ownBlock=some b∨b=Wb) w (w5.setCell ⟨Wb,0,none⟩ v3):=(hK.mono (fun b e=> .inl e)).setCell (p:=⟨Wb,0,none⟩) (.inl (.inr rfl)) v3;have a0:zj (fun b=>b=Wb) w5 (w5.setCell ⟨Wb,0,none⟩ v3):=(zj.refl (fun b=>b=Wb) w5).setCell (p:=⟨Wb,0,none⟩) (.inl rfl) v3;have a8:∀b,(av.ownBlock=some b∨b=Wb)→M b:=by
  rintro b (e|rfl)
  ·exact h.sub b (h.aO b e).1
  ·exact h.sub _ h.own
 have cl:∀o v,o≠0→w.cell? ⟨Wb,o,none⟩=some v→(w5.setCell ⟨Wb,0,none⟩ v3).cell? ⟨Wb,o,none⟩=some v:=fun o v ho e=>by
  rw[z9 _ _ _ _ _ ho,hK.cell (p:=⟨Wb,o,none⟩) hW a5];exact e
 have b1:w5.cell? ⟨Wb,0,none⟩=some av:=by rw[hK.cell (p:=⟨Wb,0,none⟩) hW a5];exact h.c0
 have a3:v3.ownBlock≠some Wb:=fun e=>by
  rcases a9 Wb e with e|e
  ·exact a5 e
  ·omega
 have a6:∀g,O g→g≠Wb→av.ownBlock≠some g→v3.ownBlock≠some g:=fun g h1 h2 h3 e=>by
  rcases a9 g e with e|e
  ·exact h3 e
  ·have:=h.lt g h1;omega
 have keep:∀{e:TypeId} {size:Nat} {v:Value} {n:Nat} {xs:List Value},w.ownsRow 0 e size v n xs→(∀g,v.ownBlock=some g→g≠Wb∧av.ownBlock≠some g)→(w5.setCell ⟨Wb,0,none⟩ v3).ownsRow 0 e size v n xs:=fun ho hg=>zh ho a1 (fun g e e2=>by
  rcases e2 with e2|e2
  ·exact(hg g e).2 e2
  ·exact(hg g e).1 e2)
 refine⟨⟨b0,fun b e=> ?_,.inl h.own,zD _ _ _ _ _ b1,cl 1 _ (by omega) h.c1,cl 2 _ (by omega) h.c2,cl 3 _ (by omega) h.c3,cl 4 _ (by omega) h.c4,cl 5 _ (by omega) h.c5,fun o=> ?_,
  zh a2 a0 (fun g e e2=>a3 (by rw[e,e2])),keep h.nrow (fun g e=>⟨(h.nO g e).2,fun e2=>(h.aO g e2).2.2.1 e⟩),keep h.trow (fun g e=>⟨(h.tO g e).2.1,fun e2=>(h.aO g e2).2.2.2.1 e⟩),keep h.urow (fun g e=>⟨(h.uO g e).2.1,fun e2=>(h.aO g e2).2.2.2.2.1 e⟩),keep h.krow (fun g e=>⟨(h.kO g e).2.1,fun e2=>(h.aO g e2).2.2.2.2.2 e⟩),
  fun g e=>⟨.inl (h.nO g e).1,(h.nO g e).2⟩,fun g e=>⟨.inl (h.tO g e).1,(h.tO g e).2⟩,fun g e=>⟨.inl (h.uO g e).1,(h.uO g e).2⟩,fun g e=>⟨.inl (h.kO g e).1,(h.kO g e).2⟩,fun g e=> ?_,fun p hp=> ?_,fun p hp=> ?_⟩,a1.mono (fun b e=> ?_)⟩
 ·rcases e with e|e
  ·exact j0b (h.lt b e) a1.size
  ·exact j0b (a2.lt b e).2 a0.size
 ·rw[World.frozen?_setCell,hK.frozen (p:=⟨Wb,o,none⟩) hW a5];exact h.fr o
 ·refine⟨.inr e,fun e2=>a3 (by rw[e,e2]),fun e2=> ?_,fun e2=> ?_,fun e2=> ?_,fun e2=> ?_⟩
  ·exact a6 g (h.nO g e2).1 (h.nO g e2).2 (fun e3=>(h.aO g e3).2.2.1 e2) e
  ·exact a6 g (h.tO g e2).1 (h.tO g e2).2.1 (fun e3=>(h.aO g e3).2.2.2.1 e2) e
  ·exact a6 g (h.uO g e2).1 (h.uO g e2).2.1 (fun e3=>(h.aO g e3).2.2.2.2.1 e2) e
  ·exact a6 g (h.kO g e2).1 (h.kO g e2).2.1 (fun e3=>(h.aO g e3).2.2.2.2.2 e2) e
 ·obtain⟨n,hr⟩:=h.nl p hp;exact⟨n,hr.step a1 a8 hM⟩
 ·obtain⟨n,hr⟩:=h.ul p hp;exact⟨n,hr.step a1 a8 hM⟩
 ·rcases e with e|rfl
  ·exact(h.aO b e).1
  ·exact h.own
theorem fW {w0 w:World}{h0 Wb:Nat}{O:Nat→Prop}{L:List SP}{names:List (Value×List UInt8)}{a7:List (Value×Int)}{last:Nat}(h:LW w0 h0 Wb O L names a7 last)(hb:Below w0.heap.size w0 w){bx by_:Nat}(h1:w0.heap.size≤bx)(h2:w0.heap.size≤by_)(h3:bx≠by_)
  (hx:w.heap[bx]? =some (.cells #[.slice none 0 0,.slice none 0 0,.slice none 0 0] 102 (0,0))){C:Array Value}(hC:ZC C)(hy:w.heap[by_]? =some (.cells C 82 (0,0)))(hL:L.length≤1000):
  Calls Tryz.prog 77 #[.pointer (some ⟨Wb,0,none⟩),.pointer (some ⟨bx,0,none⟩),.pointer (some ⟨by_,0,none⟩)] w fun e w' =>e= .returned (.bool true)∧∃O',LW w' h0 Wb O' (L++ [⟨bx,by_,fun b=>b=bx,fun b=>b=by_,Xh,Xh⟩]) names a7 last∧Below h0 w0 w' :=by
 obtain⟨av,nv,tv,uv,kv,hl⟩:=h.lw;have a4:=hl.lt Wb hl.own;have c0:=(hb.cell (p:=⟨Wb,0,none⟩) a4).trans hl.c0;have c9:=(hb.frozen (p:=⟨Wb,0,none⟩) a4).trans (hl.fr 0);have d7:=hb.size;have b5:bx<w.heap.size:=(Array.getElem?_eq_some_iff.1 hx).1;have b6:by_<w.heap.size:=(Array.getElem?_eq_some_iff.1 hy).1;have a6:w.ownsRow 0 85 2 av L.length (xE (L.map fun p=>(p.bx,p.by_))):=by
  have:=zw hl.arow hb;rwa[List.length_map]at this
 obtain⟨a,cap,a9,hn,hm,_,_⟩:=za a6;rw[a9]at c0;have HO:=zk a6;have HH:=zk h;have HL:=zk hl;have HX:=zk hx;have HY:=zk hy;have b8:=zk hC;have b7:=zk a9;rw[a9]at a6;clear h hl hx hy a9 hC;go_enter Tryz.func77,Tryz.ntmps77;go_wp2_with (at_builtin;go_loud (refine kF _ (by rfl) _ _ 66 66 _ (by rfl) 0 85 (.agg #[.pointer none,.pointer none]) 2 16 Tryz.underlying66 Tryz.underlying66 Tryz.info85 (by rfl) (by decide) (a6.alloc _) ⟨w.heap.size,0,none⟩ 1 1 [.pointer (some ⟨bx,0,none⟩),.pointer (some ⟨by_,0,none⟩)] (by rfl) (by exact zE w #[.pointer (some ⟨bx,0,none⟩),.pointer (some ⟨by_,0,none⟩)] 85) (by rfl) (by rfl) (by intro u hu;simp at hu;rcases hu with rfl|rfl<;>rfl) (by unfold maxLen;omega) (by omega) (Nat.zero_le _) ?_))
 intro v3 w5 b3 a2 b1;rw[←b7.out]at a2 b1;have d6:w.heap.size+1≤w5.heap.size:=by have:=a2.size;simpa using this
 have a1:∀g,av.ownBlock=some g→g<w0.heap.size∧g≠Wb:=fun g e=>⟨HL.out.lt g (HL.out.aO g e).1,(HL.out.aO g e).2.1⟩
 have a0:∀k,k<w.heap.size→av.ownBlock≠some k→w5.heap[k]? =w.heap[k]? :=fun k hk a3=>by
  rw[a2.block k (by simp;omega) (fun e=>a3 e.symm),heap_alloc_old _ _ hk]
 have b2:av.ownBlock≠some Wb:=fun e=>(a1 _ e).2 rfl
 have d0:=(World.cell?_of_block (a:=⟨Wb,0,none⟩) (a0 Wb (by omega) b2)).trans c0;have g0:=(World.frozen?_of_block (a:=⟨Wb,0,none⟩) (a0 Wb (by omega) b2)).trans c9;have b9:Hid (zj (fun b=>av.ownBlock=some b) w0 w5):=⟨a2.os.trans hb.os,a2.tape.trans hb.tape,a2.output.trans hb.output,by omega,fun k hk a3=>by rw[a0 k (by omega) a3];exact hb.block k hk⟩
 have c7:Hid (w5.heap[bx]? =some (.cells #[.slice none 0 0,.slice none 0 0,.slice none 0 0] 102 (0,0))):=by
  show _=_;rw[a0 bx b5 (fun e=>by have:=(a1 _ e).1;omega)];exact HX.out
 have c8:Hid (w5.heap[by_]? =some (.cells C 82 (0,0))):=by
  show _=_;rw[a0 by_ b6 (fun e=>by have:=(a1 _ e).1;omega)];exact HY.out
 have a8:Hid (∀g,v3.ownBlock=some g→av.ownBlock=some g∨w.heap.size<g):=fun g e=>by
  rcases b1 g e with e|e
  ·exact .inl e
  ·exact .inr (by first|omega|(simp at e;omega))
 have c6:Hid (w5.ownsRow 0 85 2 v3 ((L.map fun p=>(p.bx,p.by_))++ [(bx,by_)]).length (xE ((L.map fun p=>(p.bx,p.by_))++ [(bx,by_)]))):=by
  have e1:((L.map fun p=>(p.bx,p.by_))++ [(bx,by_)]).length=L.length+1:=by simp
  have e2:xE ((L.map fun p=>(p.bx,p.by_))++ [(bx,by_)])=xE (L.map fun p=>(p.bx,p.by_))++ [.pointer (some ⟨bx,0,none⟩),.pointer (some ⟨by_,0,none⟩)]:=by simp[xE]
  show w5.ownsRow _ _ _ _ _ _;rw[e1,e2];exact b3
 obtain⟨a5,c5,d3,_⟩:=za b3;have b0:=zk a1;subst d3;clear b3 a2 b1 a0 b2 a1 a6;go_wp2;go_ret;refine⟨rfl,fun b=>O b∨(Value.slice a5 (L.length+1) c5).ownBlock=some b,?_⟩;have b4:=HL.out.newAll (M' :=fun b=>MM O L b∨(O b∨(Value.slice a5 (L.length+1) c5).ownBlock=some b)∨b=bx∨b=by_) b9.out c6.out (fun g e=>by
  rcases a8.out g e with e|e
  ·exact .inl e
  ·exact .inr (by omega)) (fun b e=>by
  rcases e with e|(e|e)|e|e
  ·exact .inl e
  ·exact .inl (.inl e)
  ·rcases a8.out b e with e|e
   ·exact .inl (.inl (HL.out.aO b e).1)
   ·exact .inr (by omega)
  ·exact .inr (by omega)
  ·exact .inr (by omega)) (fun b e=> .inr (.inl e))
 have a3:∀b,w0.heap.size≤b→b<w.heap.size→¬(O b∨(Value.slice a5 (L.length+1) c5).ownBlock=some b):=fun b d4 d5 e=>by
  rcases e with e|e
  ·have:=HL.out.lt b e;omega
  ·rcases a8.out b e with e|e
   ·have:=(b0.out b e).1;omega
   ·omega
 refine HH.out.pair b4.2 (fun b e=> ?_) h1 h2 h3 (a3 bx h1 b5) (a3 by_ h2 b6) ?_ b8.out ?_ ⟨_,nv,tv,uv,kv,b4.1⟩
 ·rcases e with e|e
  ·exact .inl e
  ·rcases a8.out b e with e|e
   ·exact .inl (HL.out.aO b e).1
   ·exact .inr (by omega)
 ·rw[Below.heap_setCell _ _ _ _ (by show bx≠Wb;omega)];exact c7.out
 ·rw[Below.heap_setCell _ _ _ _ (by show by_≠Wb;omega)];exact c8.out
theorem UT (c:Int)(n:Nat)(h:0<n):∃i:Nat,i<n∧qG c n=(i:Int):=by
 have h1:0≤qG c n:=by
  unfold qG;split
  all_goals
   exact Int.emod_nonneg _ (by omega)
 have h2:qG c n<n:=by
  unfold qG;split
  all_goals
   exact Int.emod_lt_of_pos _ (by omega)
 exact⟨(qG c n).toNat,by omega,by omega⟩
theorem Qi:∀(ps:List (Nat×Nat)) (i:Nat) (h:i<ps.length),(xE ps)[i*2]? =some (.pointer (some ⟨(ps[i]'h).1,0,none⟩))∧(xE ps)[i*2+1]? =some (.pointer (some ⟨(ps[i]'h).2,0,none⟩))
 |p::r,0,_=>by simp[xE]
 |p::r,i+1,h=>by
  have ih:=Qi r i (by simpa using h);unfold xE at ih⊢;rw[List.flatMap_cons,show(i+1)*2=i*2+2 from by omega];simpa using ih
theorem fk {w:World}{h0 Wb:Nat}{O:Nat→Prop}{L:List SP}{names:List (Value×List UInt8)}{a3:List (Value×Int)}{last nn ll KK:Nat}(h:LW w h0 Wb O L names a3 last)(hL:0<L.length)(e5:L.length≤1000)(k wi n m:Int)(s t u:List UInt8)(d9:wi≤9223372036854775807)(e3: -9223372036854775808≤wi)
  (hk:k=2∨k=3∨k=4∨k=5∨k=6∨k=7∨k=8∨k=9∨k=10∨k=11∨k=12∨k=13)(d8:nn≤names.length+9)(d6:ll≤last+1)
  (HV:6≤k→k≤11→∀W,LW W h0 Wb O L names a3 last→∀(i:Nat) (hi:i<L.length),Calls Tryz.prog 81 #[.agg #[.pointer (some ⟨L[i].bx,0,none⟩),.pointer (some ⟨L[i].by_,0,none⟩)],.agg (opC k wi n m s t u)] W fun e w' =>e= .returned (.bool true)∧Goes W w' h0 Wb L.length nn ll KK)
  (HW:k≤5→∀W,LW W h0 Wb O L names a3 last→∀(i:Nat) (hi:i<L.length),Calls Tryz.prog 80 #[.pointer (some ⟨Wb,0,none⟩),.agg #[.pointer (some ⟨L[i].bx,0,none⟩),.pointer (some ⟨L[i].by_,0,none⟩)],.agg (opC k wi n m s t u)] W fun e w' =>e= .returned (.bool true)∧Goes W w' h0 Wb L.length nn ll KK)
  (HZ:12≤k→∀W,LW W h0 Wb O L names a3 last→∀(i:Nat) (hi:i<L.length),Calls Tryz.prog 82 #[.pointer (some ⟨Wb,0,none⟩),.agg #[.pointer (some ⟨L[i].bx,0,none⟩),.pointer (some ⟨L[i].by_,0,none⟩)],.agg (opC k wi n m s t u)] W fun e w' =>e= .returned (.bool true)∧Goes W w' h0 Wb L.length nn ll KK):
  Calls Tryz.prog 43 #[.pointer (some ⟨Wb,0,none⟩),.agg (opC k wi n m s t u)] w fun e w' =>e= .returned (.bool true)∧Goes w w' h0 Wb L.length (names.length+9) (last+1) KK:=by
 obtain⟨i,hi,c9⟩:=UT wi L.length hL;have HP:=fun W=>g9 wi (L.length:Int) W (by omega) (by omega) e3 d9
 rw[c9]at HP;have HG:Hid (∀W w',Below w.heap.size w W→Goes W w' h0 Wb L.length nn ll KK→Goes w w' h0 Wb L.length (names.length+9) (last+1) KK):=by
  rintro W w' hb ⟨O',L',a6,b0,a9,h1,h2,h3,h4,h5,h6⟩;exact⟨O',L',a6,b0,a9,h1,h2,fun j hj=>⟨(h3 j hj).1,by have:=(h3 j hj).2;omega⟩,by omega,by omega,(hb.mono h.hs).trans h6⟩
 have HH:=zl h;obtain⟨av,nv,tv,uv,kv,hl⟩:=h.lw;have d4:=hl.lt Wb hl.own;have c0:=hl.c0;have a5:=hl.arow;rw[List.length_map]at a5;obtain⟨aa,ac,c7,e6,d5,b9,c6⟩:=za a5;rw[c7]at c0
 cases aa with
 |none=>have:=(b9 rfl).1;omega
 |some ad=>
 obtain⟨g,rfl,_,hg,_,a1⟩:=c6 ad rfl;have b4:=Qi (L.map fun p=>(p.bx,p.by_)) i (by simpa using hi);have d1:=a1 _ _ b4.1;have d2:=a1 _ _ b4.2;simp only[List.getElem_map]at d1 d2;unfold maxLen at d5;replace HV:=fun h1 h2 W hW=>HV h1 h2 W hW i hi
 replace HW:=fun h1 W hW=>HW h1 W hW i hi
 replace HZ:=fun h1 W hW=>HZ h1 W hW i hi
 clear h hl a5 c7 b9 c6 a1 b4 c9;generalize L[i].bx=bx at*;generalize L[i].by_=by_ at*;have a7:=zl HP;clear HP d8 d6;obtain⟨W1,a8⟩:∃W1,W1=w.alloc (Obj.cells #[.int .i64 k,.int .i64 wi,.int .i64 n,.int .i64 m,.string ⟨s.toArray⟩,.string ⟨t.toArray⟩,.string ⟨u.toArray⟩] 73):=⟨_,rfl⟩
 have a4:Below w.heap.size w W1:=by rw[a8];exact(j0g _ _).alloc (j0a _) _
 have b1:W1.heap.size=w.heap.size+1:=by rw[a8];simp
 have a2:∀j v,#[Value.int .i64 k,.int .i64 wi,.int .i64 n,.int .i64 m,.string ⟨s.toArray⟩,.string ⟨t.toArray⟩,.string ⟨u.toArray⟩][j]? =some v→W1.cell? ⟨w.heap.size,j,none⟩=some v:=fun j v hv=>by rw[a8,World.cell?_alloc_at _ _ _ _ rfl];exact hv
 have b5:=zl a4;have b7:=zl b1;have b6:=zl a2;have b8:=zl a8;clear a8 a4 b1 a2;rcases hk with rfl|rfl|rfl|rfl|rfl|rfl|rfl|rfl|rfl|rfl|rfl|rfl
 all_goals
  first
   |have a0:=zl (HV (by omega) (by omega))
   |have a0:=zl (HW (by omega))
   |have a0:=zl (HZ (by omega))
  clear HV HW HZ;go_enter Tryz.func43,Tryz.ntmps43;unfold opC;go_wp2_with fail
  rw[←b8.out];have a4:=b5.out;have b1:=b7.out;have a2:=b6.out;have o0:=a2 0 _ rfl;have o1:=a2 1 _ rfl;have o2:=a2 2 _ rfl;have o3:=a2 3 _ rfl;have o4:=a2 4 _ rfl;have o5:=a2 5 _ rfl;have o6:=a2 6 _ rfl;have e0:=(a4.cell (p:=⟨Wb,0,none⟩) d4).trans c0;have e1:=(a4.cell (p:=⟨g,i*2,none⟩) hg).trans d1;have e2:=(a4.cell (p:=⟨g,i*2+1,none⟩) hg).trans d2;have b2:=zl (HH.out.below a4);have d7:w.heap.size<W1.heap.size:=by omega
  clear a2 a4 b1 c0 d1 d2 HH b8 b6 b7;go_region_held3 (fun w' =>w'.cell? ⟨Wb,0,none⟩=some (.slice (some ⟨g,0,none⟩) L.length ac)∧w'.cell? ⟨w.heap.size,1,none⟩=some (.int .i64 wi)∧w'.cell? ⟨g,i*2,none⟩=some (.pointer (some ⟨bx,0,none⟩))∧w'.cell? ⟨g,i*2+1,none⟩=some (.pointer (some ⟨by_,0,none⟩))) (go_keep) (first
   |(go_at_call 79;refine(a7.out _).mono ?_;rintro e w4 ⟨rfl,e4⟩;subst e4))
  all_goals
   go_wp2_with fail
   have b3:Below W1.heap.size W1 (W1.alloc (Obj.cells #[.pointer (some ⟨bx,0,none⟩),.pointer (some ⟨by_,0,none⟩)] 85)).drew:=((j0g _ _).alloc (j0a _) _).drew;refine(a0.out _ (b2.out.below b3)).mono ?_;rintro e w5 ⟨rfl,c8⟩;have d3:=zl (HG.out _ _ (b5.out.trans (b3.mono (by omega))) c8);clear c8 b3;go_wp2;go_ret;exact⟨rfl,d3.out⟩
def Fine (w0 wr:World)(h0 Wb c:Nat)(len:Nat):Prop:=∃O L names nums last,LW wr h0 Wb O L names nums last∧L.length=len∧xZ (20*c) L∧names.length≤9*c∧last≤c∧Below h0 w0 wr
structure Oe (k wi n:Int)(s t u:List UInt8):Prop where
 w1:wi≤9223372036854775807
 w2: -9223372036854775808≤wi
 n1:n≤9223372036854775807
 n2: -9223372036854775808≤n
 s:s.length≤maxLen
 t:t.length≤maxLen
 u:u.length≤maxLen
theorem Fine.all {w0 wr:World}{h0 Wb c a2:Nat}(h:Fine w0 wr h0 Wb c a2):∃aa ac,wr.cell? ⟨Wb,0,none⟩=some (.slice aa a2 ac)∧Wb<wr.heap.size:=by
 obtain⟨O,L,names,a4,last,a1,rfl,_⟩:=h;obtain⟨av,nv,tv,uv,kv,hl⟩:=a1.lw;have a0:=hl.arow;rw[List.length_map]at a0;obtain⟨aa,ac,a3,_⟩:=za a0;exact⟨aa,ac,by rw[←a3];exact hl.c0,hl.lt Wb hl.own⟩
theorem Fine.br {w0 wr:World}{h0 Wb c a5:Nat}(h:Fine w0 wr h0 Wb c a5)(i:Nat)(hi:i<a5):∃g ac bx by_ ba nb bc,wr.cell? ⟨Wb,0,none⟩=some (.slice (some ⟨g,0,none⟩) a5 ac)∧a5≤ac∧ac≤maxLen∧wr.cell? ⟨g,i*2,none⟩=some (.pointer (some ⟨bx,0,none⟩))∧wr.cell? ⟨g,i*2+1,none⟩=some (.pointer (some ⟨by_,0,none⟩))∧
  wr.cell? ⟨by_,1,none⟩=some (.slice ba nb bc)∧nb≤6∧nb≤bc∧bc≤maxLen∧∀k,k<nb→∃(g2:Nat) (nm:List UInt8),ba=some ⟨g2,0,none⟩∧wr.cell? ⟨g2,k*3,none⟩=some (.string ⟨nm.toArray⟩)∧nm.length≤maxLen:=by
 obtain⟨O,L,names,b9,last,a1,rfl,_⟩:=h;obtain⟨av,nv,tv,uv,kv,hl⟩:=a1.lw;have a4:=hl.arow;rw[List.length_map]at a4;obtain⟨aa,ac,b2,a8,a9,b0,b1⟩:=za a4
 cases aa with
 |none=>have:=(b0 rfl).1;omega
 |some ad=>
 obtain⟨g,rfl,_,hg,_,a0⟩:=b1 ad rfl;have a6:=Qi (L.map fun p=>(p.bx,p.by_)) i (by simpa using hi);have d1:=a0 _ _ a6.1;have d2:=a0 _ _ a6.2;simp only[List.getElem_map]at d1 d2;have hy:=a1.py i hi;have a2:=hy.2;obtain⟨cv,bv,LB,c6,hR⟩:=hy.1;obtain⟨ba,bc,b3,b5,b6,b7,b8⟩:=za hR.row;have b4:L[i].sy.brs.length=LB.length:=by rw[←hR.brs,List.length_map]
 refine⟨g,ac,_,_,ba,LB.length,bc,by rw[←b2];exact hl.c0,a8,a9,d1,d2,by rw[←b3];exact hR.c1,by have:=a2.many;omega,b5,b6,fun k hk=> ?_⟩
 cases ba with
 |none=>have:=(b7 rfl).1;omega
 |some a7=>
  obtain⟨g2,rfl,_,_,_,a3⟩:=b8 a7 rfl;refine⟨g2,(LB[k]'hk).1.name,rfl,a3 _ _ (by have:=Qh LB k 0 hk (by omega);simpa using this),?_⟩;have hm:(LB[k]'hk).1∈L[i].sy.brs:=by rw[←hR.brs];exact List.mem_map_of_mem (j0c hk)
  have:=ZA _ (a2.names _ hm);unfold maxLen;omega
structure OpL where
 k:Int
 wi:Int
 n:Int
 m:Int
 s:List UInt8
 t:List UInt8
 u:List UInt8
def OpL.ok (o:OpL):Prop:=Oe o.k o.wi o.n o.s o.t o.u
def OpL.cells (o:OpL):List Value:=(opC o.k o.wi o.n o.m o.s o.t o.u).toList
def qZ (l:List OpL):List Value:=l.flatMap OpL.cells
theorem Vz:∀(l:List OpL) (i j:Nat) (h:i<l.length) (_:j<7),(qZ l)[i*7+j]? =(l[i]'h).cells[j]?
 |p::r,0,j,_,hj=>by
  unfold qZ;rw[List.flatMap_cons,Nat.zero_mul,Nat.zero_add,List.getElem?_append_left (by simp[OpL.cells,opC];omega)];rfl
 |p::r,i+1,j,h,hj=>by
  have ih:=Vz r i j (by simpa using h) hj;unfold qZ at ih⊢;rw[List.flatMap_cons,List.getElem?_append_right (by simp[OpL.cells,opC];omega)];rw[show(i+1)*7+j-p.cells.length=i*7+j from by simp[OpL.cells,opC];omega];simpa using ih
theorem fK (w:World)(hG:Y8 w):LW (w.alloc (.cells #[.slice none 0 0,.slice none 0 0,.slice none 0 0,.slice none 0 0,.slice none 0 0,.int .i64 0] 70)) w.heap.size w.heap.size (fun b=>b=w.heap.size) [] [] [] 0:=by
 have a0:∀b,MM (fun b=>b=w.heap.size) [] b→b=w.heap.size:=by
  rintro b (e|⟨j,hj,_⟩)
  ·exact e
  ·simp at hj
 refine⟨⟨.slice none 0 0,.slice none 0 0,.slice none 0 0,.slice none 0 0,.slice none 0 0,?_⟩,fun j hj=>by simp at hj,fun j hj=>by simp at hj,fun j hj=>by simp at hj,fun j hj=>by simp at hj,fun i j hi=>by simp at hi,fun b e=>by rw[a0 b e];exact j0a _,fun b e=>by rw[a0 b e];simp,hG.below ((j0g _ _).alloc (j0a _) _),hG.size,by simp,by simp⟩;exact⟨fun b e=> .inl e,fun b e=>by subst e;simp,rfl,by rw[World.cell?_alloc_at _ _ _ _ rfl];rfl,by rw[World.cell?_alloc_at _ _ _ _ rfl];rfl,by rw[World.cell?_alloc_at _ _ _ _ rfl];rfl,by rw[World.cell?_alloc_at _ _ _ _ rfl];rfl,by rw[World.cell?_alloc_at _ _ _ _ rfl];rfl,by rw[World.cell?_alloc_at _ _ _ _ rfl];rfl,fun o=>World.frozen?_alloc_at _ _ _ _ rfl,
  World.ownsRow_nil _ _ _ _,World.ownsRow_nil _ _ _ _,World.ownsRow_nil _ _ _ _,World.ownsRow_nil _ _ _ _,World.ownsRow_nil _ _ _ _,fun g e=>by simp[Value.ownBlock]at e,fun g e=>by simp[Value.ownBlock]at e,fun g e=>by simp[Value.ownBlock]at e,fun g e=>by simp[Value.ownBlock]at e,fun g e=>by simp[Value.ownBlock]at e,by simp,by simp⟩
theorem Xf (k wi n:Int)(s t u:List UInt8)(a2:wi≤1000000)(a3: -1000000≤wi)(a0:n≤1000000)(a1: -1000000≤n)(hs:s.length≤maxLen)(ht:t.length≤100)(hu:u.length≤100):Oe k wi n s t u:=
 ⟨by omega,by omega,by omega,by omega,hs,by unfold maxLen;omega,by unfold maxLen;omega⟩
theorem oW {w:World}{h0 Wb:Nat}{O:Nat→Prop}{L:List SP}{names:List (Value×List UInt8)}{a0:List (Value×Int)}{last K:Nat}(h:LW w h0 Wb O L names a0 last)(hA:xZ K L)(hK:K≤90000000000)(i:Nat)(hi:i<L.length)(wi n m:Int)(s t u:List UInt8):
  Calls Tryz.prog 82 #[.pointer (some ⟨Wb,0,none⟩),.agg #[.pointer (some ⟨L[i].bx,0,none⟩),.pointer (some ⟨L[i].by_,0,none⟩)],.agg (opC 12 wi n m s t u)] w fun e w' =>e= .returned (.bool true)∧Goes w w' h0 Wb L.length names.length last (K+300000):=by
 have a1:=(hA i hi).1;have a8:=(hA i hi).2;have HX:=fun W (hW:LW W h0 Wb O L names a0 last)=>gB L[i].bx L[i].sx s W (MM O L) L[i].ox (hW.px i hi).1 (hW.px i hi).2 hW.lt (by have:=a8;rw[a1];omega) hW.g (fun b e=>j0f hW.h6 (hW.lo b (.inr ⟨i,hi,.inl e⟩)))
 have HY:=fun W (L1:List SP) (h1:i<L1.length) (hW:LW W h0 Wb O L1 names a0 last) (e1:L1[i].by_=L[i].by_) (e2:L1[i].sy=L[i].sy)=>OM L1[i].by_ L1[i].sy s W (MM O L1) L1[i].oy (hW.py i h1).1 hW.lt (hW.py i h1).2 (by have:=a8;rw[e2];omega)
 have a4:Hid (Inv (R.commit L[i].sy s).2):=UA (h.py i hi).2 s;have d9:Hid ((R.commit L[i].sy s).2.packed.length≤K+300000):=j0f (KQ (h.py i hi).2 s) (by omega);have HH:=zl h;have HA:=zl hA;have f3:=zl a1;unfold opC;rw[a1]at HX;have b1 :∀W,LW W h0 Wb O L names a0 last→Calls Tryz.prog 28 #[.pointer (some ⟨L[i].bx,0,none⟩),.string ⟨s.toArray⟩] W fun e w' =>e= .returned (.tuple #[.int .i64 (R.commit L[i].sy s).1.1,.int .i64 (R.commit L[i].sy s).1.2])∧zR W w' (MM O L) L[i].ox L[i].bx (R.commit L[i].sy s).2:=HX
 have b3 :∀W (L1:List SP) (h1:i<L1.length),LW W h0 Wb O L1 names a0 last→L1[i].by_=L[i].by_→L1[i].sy=L[i].sy→Calls Tryz.prog 124 #[.pointer (some ⟨L[i].by_,0,none⟩),.string ⟨s.toArray⟩] W fun e w' =>e= .returned (.tuple #[.int .i64 (R.commit L[i].sy s).1.1,.int .i64 (R.commit L[i].sy s).1.2])∧zG W w' (MM O L1) L1[i].oy L1[i].by_ (R.commit L[i].sy s).2:=fun W L1 h1 hW e1 e2=>by
  have:=HY W L1 h1 hW e1 e2;rw[e2]at this;rw[←e1];exact this
 clear HX HY a1 a8 hA;generalize R.commit L[i].sy s=r at*;obtain⟨bx,a9⟩:∃bx,Hid (L[i].bx=bx):=⟨L[i].bx,zl rfl⟩
 obtain⟨by_,b0⟩:∃by_,Hid (L[i].by_=by_):=⟨L[i].by_,zl rfl⟩
 rw[a9.out,b0.out];have b2:Hid (∀W,LW W h0 Wb O L names a0 last→Calls Tryz.prog 28 #[.pointer (some ⟨bx,0,none⟩),.string ⟨s.toArray⟩] W fun e w' =>e= .returned (.tuple #[.int .i64 r.1.1,.int .i64 r.1.2])∧zR W w' (MM O L) L[i].ox L[i].bx r.2):=fun W hW=>by rw[←a9.out];exact b1 W hW
 have b4:Hid (∀W (L1:List SP) (h1:i<L1.length),LW W h0 Wb O L1 names a0 last→L1[i].by_=L[i].by_→L1[i].sy=L[i].sy→Calls Tryz.prog 124 #[.pointer (some ⟨by_,0,none⟩),.string ⟨s.toArray⟩] W fun e w' =>e= .returned (.tuple #[.int .i64 r.1.1,.int .i64 r.1.2])∧zG W w' (MM O L1) L1[i].oy L1[i].by_ r.2):=fun W L1 h1 hW e1 e2=>by rw[←b0.out];exact b3 W L1 h1 hW e1 e2
 clear b1 b3 h;have a2:Hid (Below w.heap.size w ((w.alloc (Obj.cells #[.pointer (some ⟨bx,0,none⟩),.pointer (some ⟨by_,0,none⟩)] 85)).alloc (Obj.cells #[.int .i64 12,.int .i64 wi,.int .i64 n,.int .i64 m,.string ⟨s.toArray⟩,.string ⟨t.toArray⟩,.string ⟨u.toArray⟩] 73))):=((j0g _ _).alloc (j0a _) _).alloc (by simp) _;have HC:Hid (∀w3,zj L[i].ox ((w.alloc (Obj.cells #[.pointer (some ⟨bx,0,none⟩),.pointer (some ⟨by_,0,none⟩)] 85)).alloc (Obj.cells #[.int .i64 12,.int .i64 wi,.int .i64 n,.int .i64 m,.string ⟨s.toArray⟩,.string ⟨t.toArray⟩,.string ⟨u.toArray⟩] 73)) w3→(∀o,w3.cell? ⟨w.heap.size,o,none⟩=((w.alloc (Obj.cells #[.pointer (some ⟨bx,0,none⟩),.pointer (some ⟨by_,0,none⟩)] 85)).alloc (Obj.cells #[.int .i64 12,.int .i64 wi,.int .i64 n,.int .i64 m,.string ⟨s.toArray⟩,.string ⟨t.toArray⟩,.string ⟨u.toArray⟩] 73)).cell? ⟨w.heap.size,o,none⟩)∧(∀o,w3.cell? ⟨w.heap.size+1,o,none⟩=((w.alloc (Obj.cells #[.pointer (some ⟨bx,0,none⟩),.pointer (some ⟨by_,0,none⟩)] 85)).alloc (Obj.cells #[.int .i64 12,.int .i64 wi,.int .i64 n,.int .i64 m,.string ⟨s.toArray⟩,.string ⟨t.toArray⟩,.string ⟨u.toArray⟩] 73)).cell? ⟨w.heap.size+1,o,none⟩)):=fun w3 hk=>
  ⟨Qj HH.out a2.out (fun b e=> .inr ⟨i,hi,.inl e⟩) hk (j0a _) (by simp<;>omega),Qj HH.out a2.out (fun b e=> .inr ⟨i,hi,.inl e⟩) hk (by omega) (by simp)⟩
 go_enter Tryz.func82,Tryz.ntmps82;go_wp2_with fail
 refine(b2.out _ (HH.out.below a2.out)).mono ?_;rintro e w3 ⟨rfl,d7⟩;obtain⟨L1,l1,c7,⟨a6,b5,c6,b8,b6,e4⟩,d5,c9,d4⟩:=(HH.out.below a2.out).X i hi d7 a4.out;obtain⟨hp,hq⟩:=HC.out w3 d4;have y1:w3.cell? ⟨w.heap.size,1,none⟩=some (.pointer (some ⟨by_,0,none⟩)):=by rw[hp];simp
 have z4:w3.cell? ⟨w.heap.size+1,4,none⟩=some (.string ⟨s.toArray⟩):=by rw[hq];simp
 have a7:=zl c7;have HE:=zl (And.intro b5 (And.intro c6 (And.intro b8 b6)));have d8:=zl d5;have a3:=zl c9;clear d7 c7 b5 c6 b8 b6 e4 d5 c9 d4 hp hq;go_wp2_with fail
 refine(b4.out _ L1 a6 a7.out HE.out.2.1 HE.out.2.2.2).mono ?_;rintro e w5 ⟨rfl,a5⟩;obtain⟨L2,l2,c8,⟨e7,e3,e6,b9,b7,e5⟩,d6,d3,e8⟩:=a7.out.Y i a6 a5 a4.out;have e9:=HH.out.hs;have HG:Hid (Goes w w5 h0 Wb L.length names.length last (K+300000)):=
  ⟨O,L2,names,a0,last,c8,l2.trans l1,Kx HA.out (by omega) hi l1 l2 ⟨a6,HE.out.2.2.1⟩ d8.out ⟨e7,b9,a6,b7⟩ d6 d9.out,j0a _,j0a _,((a2.out.mono e9).trans a3.out).trans d3⟩
 clear a5 c8 d6 d3 e8 e3 e6 b9 b7 e5 HC b4 b2 a7 a3 y1 z4;obtain⟨⟨n1,e1⟩,f4⟩:=r;dsimp only;go_wp2_with fail
 refine(JR e1 _).mono ?_;rintro e w6 ⟨rfl,f0⟩;subst f0;go_wp2;go_ret;exact⟨zm (by simp),HG.out⟩
theorem Gi {w:World}{h0 Wb:Nat}{O:Nat→Prop}{L:List SP}{names:List (Value×List UInt8)}{a0:List (Value×Int)}{last K:Nat}(h:LW w h0 Wb O L names a0 last)(hA:xZ K L)(i:Nat)(hi:i<L.length)(wi n m:Int)(s t u:List UInt8)(b0:n≤9223372036854775807)(b1: -9223372036854775808≤n):
  Calls Tryz.prog 82 #[.pointer (some ⟨Wb,0,none⟩),.agg #[.pointer (some ⟨L[i].bx,0,none⟩),.pointer (some ⟨L[i].by_,0,none⟩)],.agg (opC 13 wi n m s t u)] w fun e w' =>e= .returned (.bool true)∧Goes w w' h0 Wb L.length names.length last K:=by
 have a1:=(hA i hi).1;have HX:=fun W (hW:LW W h0 Wb O L names a0 last)=>fu L[i].bx L[i].sx n W (MM O L) L[i].ox (hW.px i hi).1 (hW.px i hi).2 hW.g
 have HY:=fun W (hW:LW W h0 Wb O L names a0 last)=>fa L[i].by_ L[i].sy n W (MM O L) L[i].oy (hW.py i hi).1 (hW.py i hi).2 b0 b1
 rw[a1]at HX;have HH:=zl h;have HA:=zl hA;unfold opC;clear a1 h hA;generalize R.treeAt L[i].sy n=r at*;generalize L[i].bx=bx at*;generalize L[i].by_=by_ at*;obtain⟨sh,e0⟩:=r;have a4:Hid (Below w.heap.size w ((w.alloc (Obj.cells #[.pointer (some ⟨bx,0,none⟩),.pointer (some ⟨by_,0,none⟩)] 85)).alloc (Obj.cells #[.int .i64 13,.int .i64 wi,.int .i64 n,.int .i64 m,.string ⟨s.toArray⟩,.string ⟨t.toArray⟩,.string ⟨u.toArray⟩] 73))):=((j0g _ _).alloc (j0a _) _).alloc (by simp) _;have a8:=zl HX;have a9:=zl HY;clear HX HY;go_enter Tryz.func82,Tryz.ntmps82;go_wp2_with fail
 refine(a8.out _ (HH.out.below a4.out)).mono ?_;rintro e w3 ⟨rfl,a2⟩;have a6:=a4.out.trans (a2.mono (by simp;omega));have y1:w3.cell? ⟨w.heap.size,1,none⟩=some (.pointer (some ⟨by_,0,none⟩)):=by rw[a2.cell (p:=⟨w.heap.size,1,none⟩) (by simp<;>omega)];simp
 have z2:w3.cell? ⟨w.heap.size+1,2,none⟩=some (.int .i64 n):=by rw[a2.cell (p:=⟨w.heap.size+1,2,none⟩) (by simp)];simp
 have a3:=zl a6;clear a2 a6;go_wp2_with fail
 refine(a9.out _ (HH.out.below a3.out)).mono ?_;rintro e w4 ⟨rfl,a7⟩;have a5:Hid (Below w.heap.size w w4):=a3.out.trans (a7.mono a3.out.size);clear a7;go_wp2_with fail
 refine(JR e0 _).mono ?_;rintro e w5 ⟨rfl,b3⟩;subst b3;have b2:=HH.out.hs;have HG:Hid (Goes w w5 h0 Wb L.length names.length last K):=⟨O,L,names,a0,last,HH.out.below a5.out,rfl,HA.out,j0a _,j0a _,a5.out.mono b2⟩
 go_wp2;go_ret;exact⟨zm (by simp),HG.out⟩
theorem VW {w:World}{h0 Wb:Nat}{O:Nat→Prop}{L:List SP}{names:List (Value×List UInt8)}{a1:List (Value×Int)}{last K:Nat}(h:LW w h0 Wb O L names a1 last)(hA:xZ K L)(i:Nat)(hi:i<L.length)(k wi n m:Int)(s t u:List UInt8)(XF YF:Nat)(XA YA:List Value)(r:Int×R.St)
  (hc:(k=6∧XF=27∧XA=[.string ⟨s.toArray⟩,.string ⟨t.toArray⟩,.int .i64 n]∧YF=122∧YA=[.int .u8 35,.string ⟨s.toArray⟩,.string ⟨t.toArray⟩,.int .i64 n,.string ⟨#[]⟩])∨
   (k=7∧XF=41∧XA=[.string ⟨s.toArray⟩,.string ⟨t.toArray⟩,.string ⟨u.toArray⟩]∧YF=122∧YA=[.int .u8 61,.string ⟨s.toArray⟩,.string ⟨t.toArray⟩,.int .i64 0,.string ⟨u.toArray⟩])∨
   (k=8∧XF=31∧XA=[.string ⟨s.toArray⟩,.string ⟨t.toArray⟩,.string ⟨u.toArray⟩]∧YF=122∧YA=[.int .u8 42,.string ⟨s.toArray⟩,.string ⟨t.toArray⟩,.int .i64 0,.string ⟨u.toArray⟩])∨
   (k=9∧XF=32∧XA=[.string ⟨s.toArray⟩,.string ⟨t.toArray⟩,.string ⟨u.toArray⟩]∧YF=122∧YA=[.int .u8 45,.string ⟨s.toArray⟩,.string ⟨t.toArray⟩,.int .i64 0,.string ⟨u.toArray⟩])∨
   (k=10∧XF=42∧XA=[.string ⟨s.toArray⟩,.string ⟨t.toArray⟩]∧YF=122∧YA=[.int .u8 0,.string ⟨s.toArray⟩,.string ⟨t.toArray⟩,.int .i64 0,.string ⟨#[]⟩])∨
   (k=2∧XF=26∧XA=[.string ⟨s.toArray⟩]∧YF=118∧YA=[.string ⟨s.toArray⟩])∨
   (k=3∧XF=29∧XA=[.string ⟨s.toArray⟩,.string ⟨t.toArray⟩]∧YF=119∧YA=[.string ⟨s.toArray⟩,.string ⟨t.toArray⟩])∨
   (k=4∧XF=37∧XA=[.string ⟨s.toArray⟩]∧YF=120∧YA=[.string ⟨s.toArray⟩]))
  (HX:∀W,LW W h0 Wb O L names a1 last→Calls Tryz.prog XF (.pointer (some ⟨L[i].bx,0,none⟩)::XA).toArray W fun e w' =>e= .returned (.int .i64 r.1)∧zR W w' (MM O L) L[i].ox L[i].bx r.2)
  (HY:∀W (L1:List SP) (h1:i<L1.length),LW W h0 Wb O L1 names a1 last→L1[i].by_=L[i].by_→L1[i].sy=L[i].sy→Calls Tryz.prog YF (.pointer (some ⟨L1[i].by_,0,none⟩)::YA).toArray W fun e w' =>e= .returned (.int .i64 r.1)∧zG W w' (MM O L1) L1[i].oy L1[i].by_ r.2)
  (hI:Inv r.2)(hP:r.2.packed.length≤K+20):
  (6≤k→Calls Tryz.prog 81 #[.agg #[.pointer (some ⟨L[i].bx,0,none⟩),.pointer (some ⟨L[i].by_,0,none⟩)],.agg (opC k wi n m s t u)] w fun e w' =>e= .returned (.bool true)∧Goes w w' h0 Wb L.length names.length last (K+20))∧
  (k≤5→Calls Tryz.prog 80 #[.pointer (some ⟨Wb,0,none⟩),.agg #[.pointer (some ⟨L[i].bx,0,none⟩),.pointer (some ⟨L[i].by_,0,none⟩)],.agg (opC k wi n m s t u)] w fun e w' =>e= .returned (.bool true)∧Goes w w' h0 Wb L.length names.length last (K+20)):=by
 have a4:=zl hI;have e8:=zl hP;have HH:=zl h;have HA:=zl hA;have b5 :∀W (L1:List SP) (h1:i<L1.length),LW W h0 Wb O L1 names a1 last→L1[i].by_=L[i].by_→L1[i].sy=L[i].sy→Calls Tryz.prog YF (.pointer (some ⟨L[i].by_,0,none⟩)::YA).toArray W fun e w' =>e= .returned (.int .i64 r.1)∧zG W w' (MM O L1) L1[i].oy L1[i].by_ r.2:=fun W L1 h1 hW e1 e2=>by
  have:=HY W L1 h1 hW e1 e2;rw[←e1];exact this
 unfold opC;clear hA HY hI hP;obtain⟨bx,b1⟩:∃bx,Hid (L[i].bx=bx):=⟨L[i].bx,zl rfl⟩
 obtain⟨by_,b2⟩:∃by_,Hid (L[i].by_=by_):=⟨L[i].by_,zl rfl⟩
 rw[b1.out,b2.out];have b4:∀W,LW W h0 Wb O L names a1 last→Calls Tryz.prog XF (.pointer (some ⟨bx,0,none⟩)::XA).toArray W fun e w' =>e= .returned (.int .i64 r.1)∧zR W w' (MM O L) L[i].ox L[i].bx r.2:=fun W hW=>by rw[←b1.out];exact HX W hW
 have b6:∀W (L1:List SP) (h1:i<L1.length),LW W h0 Wb O L1 names a1 last→L1[i].by_=L[i].by_→L1[i].sy=L[i].sy→Calls Tryz.prog YF (.pointer (some ⟨by_,0,none⟩)::YA).toArray W fun e w' =>e= .returned (.int .i64 r.1)∧zG W w' (MM O L1) L1[i].oy L1[i].by_ r.2:=fun W L1 h1 hW e1 e2=>by rw[←b2.out];exact b5 W L1 h1 hW e1 e2
 obtain⟨W1,a5⟩:∃W1,W1=(w.alloc (Obj.cells #[.pointer (some ⟨bx,0,none⟩),.pointer (some ⟨by_,0,none⟩)] 85)).alloc (Obj.cells #[.int .i64 k,.int .i64 wi,.int .i64 n,.int .i64 m,.string ⟨s.toArray⟩,.string ⟨t.toArray⟩,.string ⟨u.toArray⟩] 73):=⟨_,rfl⟩
 have a6:Below w.heap.size w W1:=by rw[a5];exact((j0g _ _).alloc (j0a _) _).alloc (by simp) _
 have e4:W1.heap.size=w.heap.size+2:=by rw[a5];simp
 have a8:=zl a6;have HC:Hid (∀w3,zj L[i].ox W1 w3→(∀o,w3.cell? ⟨w.heap.size,o,none⟩=W1.cell? ⟨w.heap.size,o,none⟩)∧(∀o,w3.cell? ⟨w.heap.size+1,o,none⟩=W1.cell? ⟨w.heap.size+1,o,none⟩)):=fun w3 hk=>
  ⟨Qj HH.out a6 (fun b e=> .inr ⟨i,hi,.inl e⟩) hk (j0a _) (by omega),Qj HH.out a6 (fun b e=> .inr ⟨i,hi,.inl e⟩) hk (by omega) (by omega)⟩
 have H0:Hid ((W1.cell? ⟨w.heap.size,1,none⟩=some (.pointer (some ⟨by_,0,none⟩))∧W1.cell? ⟨w.heap.size+1,2,none⟩=some (.int .i64 n))∧W1.cell? ⟨w.heap.size+1,4,none⟩=some (.string ⟨s.toArray⟩)∧W1.cell? ⟨w.heap.size+1,5,none⟩=some (.string ⟨t.toArray⟩)∧W1.cell? ⟨w.heap.size+1,6,none⟩=some (.string ⟨u.toArray⟩)):=by
  rw[a5];exact⟨⟨by simp,by simp⟩,by simp,by simp,by simp⟩
 have b3:=zl a5;have HZ:=zl e4;clear HX b5 h a5 a6 e4;refine⟨fun hk=> ?_,fun hk=> ?_⟩<;>rcases hc with⟨rfl,rfl,rfl,rfl,rfl⟩|⟨rfl,rfl,rfl,rfl,rfl⟩|⟨rfl,rfl,rfl,rfl,rfl⟩|⟨rfl,rfl,rfl,rfl,rfl⟩|⟨rfl,rfl,rfl,rfl,rfl⟩|⟨rfl,rfl,rfl,rfl,rfl⟩|⟨rfl,rfl,rfl,rfl,rfl⟩|⟨rfl,rfl,rfl,rfl,rfl⟩
 all_goals first
  |(exfalso;omega)
  |(clear hk
    first|go_enter Tryz.func81,Tryz.ntmps81|go_enter Tryz.func80,Tryz.ntmps80
    go_wp2_with fail
    rw[←b3.out];refine(b4 _ (HH.out.below a8.out)).mono ?_;rintro e w3 ⟨rfl,e5⟩;obtain⟨L1,l1,d4,⟨a7,b8,d3,c8,c6,b9⟩,d9,d6,b0⟩:=(HH.out.below a8.out).X i hi e5 a4.out;obtain⟨hp,hq⟩:=HC.out w3 b0;have y1:=(hp 1).trans H0.out.1.1;have z2:=(hq 2).trans H0.out.1.2;have z4:=(hq 4).trans H0.out.2.1;have z5:=(hq 5).trans H0.out.2.2.1;have z6:=(hq 6).trans H0.out.2.2.2;have a9:=zl d4;have HE:=zl (And.intro b8 (And.intro d3 (And.intro c8 c6)));have e6:=zl d9;have e7:=zl b9;have f9:w.heap.size+2≤w3.heap.size:=by have:=b0.size;have:=HZ.out;omega
    have a3:=zl d6;clear e5 d4 b8 d3 c8 c6 b9 d9 d6 b0 hp hq b3 H0;have b7:=zl b6;have a2:Hid (∀w5,zG w3.drew w5 (MM O L1) L1[i].oy L1[i].by_ r.2→(∀o,w5.cell? ⟨w.heap.size,o,none⟩=w3.cell? ⟨w.heap.size,o,none⟩)∧(∀o,w5.cell? ⟨w.heap.size+1,o,none⟩=w3.cell? ⟨w.heap.size+1,o,none⟩)):=fun w5 f7=>by
     obtain⟨_,_,d8,_⟩:=f7;have hz:∀b,L1[i].oy b→b<w.heap.size∨w.heap.size+2≤b:=fun b e=> .inl (HH.out.lt b (.inr ⟨i,hi,.inr (by rw[←e7.out];exact e)⟩))
     exact⟨fun o=>d8.cell (p:=⟨w.heap.size,o,none⟩) (by show w.heap.size<w3.heap.size;omega) (fun e=>by have:=hz w.heap.size e;omega),fun o=>d8.cell (p:=⟨w.heap.size+1,o,none⟩) (by show w.heap.size+1<w3.heap.size;omega) (fun e=>by have:=hz (w.heap.size+1) e;omega)⟩
    clear b4 b6;go_wp2_with fail
    go_region_held3 (fun w' =>w'.cell? ⟨w.heap.size,1,none⟩=some (.pointer (some ⟨by_,0,none⟩))∧w'.cell? ⟨w.heap.size+1,2,none⟩=some (.int .i64 n)∧w'.cell? ⟨w.heap.size+1,4,none⟩=some (.string ⟨s.toArray⟩)∧w'.cell? ⟨w.heap.size+1,5,none⟩=some (.string ⟨t.toArray⟩)∧w'.cell? ⟨w.heap.size+1,6,none⟩=some (.string ⟨u.toArray⟩)) (first|exact⟨y1,z2,z4,z5,z6⟩|exact⟨m1,m2,m4,m5,m6⟩|go_keep) (first
     |(go_at_call 117;refine(JR r.1 _).mono ?_;rintro e w4 ⟨rfl,f8⟩;subst f8)
     |((first|go_at_call 122|go_at_call 118|go_at_call 119|go_at_call 120);go_loud (refine(b7.out _ L1 a7 (a9.out.below (j0g _ _).drew) HE.out.2.1 HE.out.2.2.2).mono ?_;rintro e w5 ⟨rfl,a0⟩;have m1:=((a2.out w5 a0).1 1).trans y1;have m2:=((a2.out w5 a0).2 2).trans z2;have m4:=((a2.out w5 a0).2 4).trans z4;have m5:=((a2.out w5 a0).2 5).trans z5;have m6:=((a2.out w5 a0).2 6).trans z6)))
    all_goals
     obtain⟨L2,l2,d5,⟨f4,e9,f3,c9,c7,f0⟩,e3,d7,f5⟩:=(a9.out.below (j0g _ _).drew).Y i a7 a0 a4.out;have f6:=HH.out.hs;have HG:Hid (Goes w w5 h0 Wb L.length names.length last (K+20)):=
      ⟨O,L2,names,a1,last,d5,l2.trans l1,Kx HA.out (by omega) hi l1 l2 ⟨a7,HE.out.2.2.1⟩ e6.out ⟨f4,c9,a7,c7⟩ e3 e8.out,j0a _,j0a _,((a8.out.mono f6).trans a3.out).drew.trans d7⟩
     clear a0 d5 e3 d7 f5 e9 f3 c9 c7 f0 HC a2 b7 a9 a3 m1 m2 m4 m5 m6;go_wp2;go_ret;exact⟨zm (by simp),HG.out⟩)
theorem Gh {w:World}{h0 Wb:Nat}{O:Nat→Prop}{L:List SP}{names:List (Value×List UInt8)}{a0:List (Value×Int)}{last K:Nat}(h:LW w h0 Wb O L names a0 last)(hA:xZ K L)(i:Nat)(hi:i<L.length)(wi n m:Int)(s t u:List UInt8):
  Calls Tryz.prog 81 #[.agg #[.pointer (some ⟨L[i].bx,0,none⟩),.pointer (some ⟨L[i].by_,0,none⟩)],.agg (opC 11 wi n m s t u)] w fun e w' =>e= .returned (.bool true)∧Goes w w' h0 Wb L.length names.length last K:=by
 have a1:=(hA i hi).1;have HX:=fun W (hW:LW W h0 Wb O L names a0 last)=>fw L[i].bx L[i].sx s W (MM O L) L[i].ox (hW.px i hi).1 (hW.px i hi).2 hW.g
 have HY:=fun W (hW:LW W h0 Wb O L names a0 last)=>fc L[i].by_ L[i].sy s W (MM O L) L[i].oy (hW.py i hi).1 (hW.py i hi).2.fine
 rw[a1]at HX;have HH:=zl h;have HA:=zl hA;unfold opC;clear a1 h hA;generalize R.shown L[i].sy s=r at*;generalize L[i].bx=bx at*;generalize L[i].by_=by_ at*;obtain⟨sh,e0⟩:=r;have a4:Hid (Below w.heap.size w ((w.alloc (Obj.cells #[.pointer (some ⟨bx,0,none⟩),.pointer (some ⟨by_,0,none⟩)] 85)).alloc (Obj.cells #[.int .i64 11,.int .i64 wi,.int .i64 n,.int .i64 m,.string ⟨s.toArray⟩,.string ⟨t.toArray⟩,.string ⟨u.toArray⟩] 73))):=((j0g _ _).alloc (j0a _) _).alloc (by simp) _;have a8:=zl HX;have a9:=zl HY;clear HX HY;go_enter Tryz.func81,Tryz.ntmps81;go_wp2_with fail
 refine(a8.out _ (HH.out.below a4.out)).mono ?_;rintro e w3 ⟨rfl,a2⟩;have a6:=a4.out.trans (a2.mono (by simp;omega));have y1:w3.cell? ⟨w.heap.size,1,none⟩=some (.pointer (some ⟨by_,0,none⟩)):=by rw[a2.cell (p:=⟨w.heap.size,1,none⟩) (by simp<;>omega)];simp
 have z4:w3.cell? ⟨w.heap.size+1,4,none⟩=some (.string ⟨s.toArray⟩):=by rw[a2.cell (p:=⟨w.heap.size+1,4,none⟩) (by simp)];simp
 have a3:=zl a6;clear a2 a6;go_wp2_with fail
 refine(a9.out _ (HH.out.below a3.out)).mono ?_;rintro e w4 ⟨rfl,a7⟩;have a5:Hid (Below w.heap.size w w4):=a3.out.trans (a7.mono a3.out.size);clear a7;go_wp2_with fail
 refine(JR e0 _).mono ?_;rintro e w5 ⟨rfl,b1⟩;subst b1;have b0:=HH.out.hs;have HG:Hid (Goes w w5 h0 Wb L.length names.length last K):=⟨O,L,names,a0,last,HH.out.below a5.out,rfl,HA.out,j0a _,j0a _,a5.out.mono b0⟩
 go_wp2;go_ret;exact⟨zm (by simp),HG.out⟩
theorem JT {w:World}{h0 Wb:Nat}{O:Nat→Prop}{L:List SP}{names:List (Value×List UInt8)}{a6:List (Value×Int)}{last K:Nat}(h:LW w h0 Wb O L names a6 last)(hA:xZ K L)(e8:last≤1000000)(f0:names.length≤100000000)(i:Nat)(hi:i<L.length)(wi n m:Int)(s t u:List UInt8):
  Calls Tryz.prog 80 #[.pointer (some ⟨Wb,0,none⟩),.agg #[.pointer (some ⟨L[i].bx,0,none⟩),.pointer (some ⟨L[i].by_,0,none⟩)],.agg (opC 5 wi n m s t u)] w fun e w' =>e= .returned (.bool true)∧Goes w w' h0 Wb L.length (names.length+9) (last+1) K:=by
 have b4:=(hA i hi).1;have HX:=fun W (hW:LW W h0 Wb O L names a6 last)=>Ut L[i].bx L[i].sx W (MM O L) L[i].ox (hW.px i hi).1 (hW.px i hi).2
 rw[b4]at HX;have HH:=zl h;have HA:=zl hA;have b3:=(h.py i hi).2.many;obtain⟨cv,bv,LB,f9,hR⟩:=(h.py i hi).1;have e6:=hR.lt _ hR.own;have b0:L[i].sy.brs.length=LB.length:=by rw[←hR.brs,List.length_map]
 have e3:Hid (∀(k:Nat) (hk:k<LB.length),(L[i].sy.brs.map fun b=>S b.name)[k]? =some (.string ⟨(LB[k]'hk).1.name.toArray⟩)):=fun k hk=>by
  rw[←hR.brs,List.map_map,List.getElem?_map,j0d hk];rfl
 obtain⟨ba,bc,c6,g1,g3,e9,d3⟩:=za hR.row;have d7:Hid (w.cell? ⟨L[i].by_,1,none⟩=some (.slice ba LB.length bc)):=by show _=_;rw[←c6];exact hR.c1
 have d9:=zl d3;rw[b0]at HX b3;unfold opC maxLen at*;clear b4 h hA hR c6 d3 b0;generalize L[i].bx=bx at*;generalize L[i].by_=by_ at*;have a7:Hid (Below w.heap.size w ((w.alloc (Obj.cells #[.pointer (some ⟨bx,0,none⟩),.pointer (some ⟨by_,0,none⟩)] 85)).alloc (Obj.cells #[.int .i64 5,.int .i64 wi,.int .i64 n,.int .i64 m,.string ⟨s.toArray⟩,.string ⟨t.toArray⟩,.string ⟨u.toArray⟩] 73))):=((j0g _ _).alloc (j0a _) _).alloc (by simp) _;have e4:=zl HX;clear HX;go_enter Tryz.func80,Tryz.ntmps80;go_wp2_with fail
 refine(e4.out _ (HH.out.below a7.out)).mono ?_;rintro e w3 ⟨va,vc,rfl,a4,b5⟩;have a8:=zl a4;have a0 :=zl b5;have b6:=a7.out.trans (b5.mono (by simp;omega));have y1:w3.cell? ⟨w.heap.size,1,none⟩=some (.pointer (some ⟨by_,0,none⟩)):=by rw[b5.cell (p:=⟨w.heap.size,1,none⟩) (by simp<;>omega)];simp
 have b1:w3.cell? ⟨by_,1,none⟩=some (.slice ba LB.length bc):=by rw[b6.cell (p:=⟨by_,1,none⟩) e6];exact d7.out
 have d6:=zl b6;obtain⟨g5,g6,f4,g4,f5,f6,d5⟩:=za a4;injection f4 with e1 _ e2
 subst e1 e2;have b8:=zl d5;unfold maxLen at f5;clear b5 b6 a4 d5;generalize((w.alloc (Obj.cells #[.pointer (some ⟨bx,0,none⟩),.pointer (some ⟨by_,0,none⟩)] 85)).alloc (Obj.cells #[.int .i64 5,.int .i64 wi,.int .i64 n,.int .i64 m,.string ⟨s.toArray⟩,.string ⟨t.toArray⟩,.string ⟨u.toArray⟩] 73))=w2 at a8 a0 b8 a7;go_wp2;go_loopw [11,12] (fun ok j wr=>∃k q:Nat,k≤LB.length∧ok= .bool true∧j= .int .i64 k∧wr=w3.drewN q) (fun _ j _=>LB.length-(intOf j).toNat)
 case atStart=>first|exact⟨0,0,Nat.zero_le _,rfl,rfl,rfl⟩|exact⟨0,1,Nat.zero_le _,rfl,rfl,rfl⟩|exact⟨0,0,Nat.zero_le _,by simp,rfl,rfl⟩|exact⟨0,1,Nat.zero_le _,by simp,rfl,rfl⟩
 case round=>
  obtain⟨k,q,hk,rfl,rfl,rfl⟩:=hrel;by_cases b2:k<LB.length
  ·cases va with
   |none=>have:=(f6 rfl).1;omega
   |some ad=>
   cases ba with
   |none=>have:=(e9 rfl).1;omega
   |some e5=>
   obtain⟨g,rfl,_,_,_,a3⟩:=b8.out ad rfl;obtain⟨g2,rfl,_,e7,_,a1⟩:=d9.out e5 rfl;have d1:w3.cell? ⟨g,k,none⟩=some (.string ⟨(LB[k]'b2).1.name.toArray⟩):=a3 k _ (e3.out k b2);have d2:w3.cell? ⟨g2,k*3,none⟩=some (.string ⟨(LB[k]'b2).1.name.toArray⟩):=by
    rw[d6.out.cell (p:=⟨g2,k*3,none⟩) e7];exact a1 _ _ (by have:=Qh LB k 0 b2 (by omega);simpa using this)
   generalize(LB[k]'b2).1.name=nm at*;clear a3 a1;go_wp2;go_quiet (fail)
   go_wp2;go_roundw
   case rel=>exact⟨k+1,_,by omega,by simp,by go_num,rfl⟩
   case measure=>simp[intOf];omega
  ·have a2:=HH.out.below a7.out
   obtain⟨av,nv,tv,uv,kv,hl⟩:=a2.lw;have c8:=JS (w:=w3.drewN q) hl a2.lt ⟨a0.out.os,a0.out.tape,a0.out.output,a0.out.size,a0.out.block⟩ (Zx a8.out) (by omega) e8 f0;have b7:=zl a2;have d8:=zl c8;clear a2 hl c8;go_wp2_with fail
   refine d8.out.mono ?_;rintro e w4 ⟨rfl,f7,f8,a5,g0,c9,c7,d4⟩;obtain⟨a9,b9⟩:=b7.out.mine c7 d4 ⟨av,f7,f8,uv,kv,c9⟩ (by have:=b7.out.nb;omega);have f3:=HH.out.hs;have HG:Hid (Goes w w4 h0 Wb L.length (names.length+9) (last+1) K):=⟨_,L,a5,a6,last+1,a9,rfl,HA.out,by omega,j0a _,(a7.out.mono f3).trans b9⟩
   clear c9 c7 a9 b9 d4;go_wp2;go_ret;exact⟨rfl,HG.out⟩
theorem fj {w:World}{h0 Wb:Nat}{O:Nat→Prop}{L:List SP}{names:List (Value×List UInt8)}{a0:List (Value×Int)}{last K:Nat}(h:LW w h0 Wb O L names a0 last)(hA:xZ K L)(b1:L.length≤1000)(wi n m:Int)(s t u:List UInt8):
  Calls Tryz.prog 43 #[.pointer (some ⟨Wb,0,none⟩),.agg (opC 1 wi n m s t u)] w fun e w' =>e= .returned (.bool true)∧Goes w w' h0 Wb (L.length+1) names.length last K:=by
 have a3:=zl (fun W bx by_ (hb:Below w.heap.size w W) (h1:w.heap.size≤bx) (h2:w.heap.size≤by_) (h3:bx≠by_) hx hy=>fW h hb (bx:=bx) (by_:=by_) h1 h2 h3 hx oe hy b1);have HA:=zl hA;clear h hA;unfold opC;go_enter Tryz.func43,Tryz.ntmps43;go_wp2_with fail
 refine(F0 _).mono ?_;rintro e w2 ⟨rfl,a2⟩;have a4:Below w.heap.size w w2:=by rw[a2];exact((j0g _ _).alloc (j0a _) _).alloc (by simp) _
 have a7:w2.heap.size=w.heap.size+2:=by rw[a2];simp
 have a8:w2.heap[w.heap.size+1]? =some (.cells #[.slice none 0 0,.slice none 0 0,.slice none 0 0] 102 (0,0)):=by
  rw[a2];have:=heap_alloc_new (w.alloc (Obj.cells #[.int .i64 1,.int .i64 wi,.int .i64 n,.int .i64 m,.string ⟨s.toArray⟩,.string ⟨t.toArray⟩,.string ⟨u.toArray⟩] 73)) (Obj.cells #[.slice none 0 0,.slice none 0 0,.slice none 0 0] 102);simpa using this
 have b0:=zl a8;have a9:=zl a4;have a1:=zl a7;clear a2 a8 a4 a7;go_wp2_with fail
 refine(a3.out (w2.alloc (Obj.cells Tryz.zeroCells82 82)) (w.heap.size+1) w2.heap.size (a9.out.alloc (by have:=a1.out;omega) _) (by omega) (by have:=a1.out;omega) (by have:=a1.out;omega) (by rw[heap_alloc_old w2 _ (by have:=a1.out;omega)];exact b0.out) (heap_alloc_new w2 _)).mono ?_;rintro e w3 ⟨rfl,O',a6,a5⟩;have HG:Hid (Goes w w3 h0 Wb (L.length+1) names.length last K):=by
  refine⟨O',_,names,a0,last,a6,by simp,fun j hj=> ?_,j0a _,j0a _,a5⟩;rw[List.length_append,List.length_singleton]at hj;by_cases e:j<L.length
  ·rw[List.getElem_append_left e];exact HA.out j e
  ·rw[List.getElem_append_right (by omega)];simp[Xh]
 clear a6 a5;go_wp2;go_ret;exact⟨rfl,HG.out⟩
