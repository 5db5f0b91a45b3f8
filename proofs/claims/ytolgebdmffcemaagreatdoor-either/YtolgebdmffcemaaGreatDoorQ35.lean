import Derived.Test.YtolgebdmffcemaaGreatDoorQ34
import Derived.Lib.IndexMore
import Derived.BigRegionIn
import Derived.Conc.WalkWords
set_option linter.all false
set_option maxHeartbeats 20000000
set_option maxRecDepth 1000000
open Go.Lib renaming cut→LV,trimSuffix→LX
open List renaming append_assoc→rD,cons_append→lN,nil_append→mJ,size_toArray→sE,length_cons→mC,length_nil→mS,mem_cons→iC,length_map→pA,not_mem_nil→iI,take_succ_eq_append_getElem→mD,length_append→mB,take_length→wN,getElem?_eq_some_iff→wD,mem_of_getElem?→iK,take_add_one→LY,getD_eq_getElem?_getD→iJ,take_append_drop→mH,length_take→nP,flatMap_append→M8
open Go.Proofs.Tryz renaming prog→rJ,underlying39→sW,func72→M2,ntmps72→M3,func71→M4,ntmps71→M5,results71→M6
open Nat renaming reduceAdd→sF,zero_le→sQ,min_eq_left→DI
open ByteArray renaming size→aF,mk→rS
open Go.World renaming cell?_of_block→pU,frozen?_of_block→DL,cell?_setCell_same'→LM,ownsRow→LZ
open UInt8 renaming ofNat→mA,toNat_ofNat'→nT,toNat→M1
open Go.Calls renaming quiet_of_same→M7
namespace Go.Proofs.YtolgebdmffcemaaGreatDoor
open Go Go.RowKit Go.Shelf
section
attribute [local go_sem] Oper.semAt_some
theorem uM {F:Fence}{n:Nat}{P:Program}{ops:Array Oper}{Q:Exit→Act→World→Prop}(l:Nat)(a0:F.round=none)(hd:∀(j:Nat) (o:Oper),ops[j]? =some o→∀c,o.op≠ .defer c){i:Nat}{K:Act→World→Prop}{a:Act}{w:World}(h:wpOpIn F n P ops Q i K a w):wpOpIn (F.inRound l) n P ops Q i K a w:=by
 unfold wpOpIn at h⊢;split
 ·rename_i e;rw[e]at h;exact h
 ·rename_i o ho
  simp only[ho]at h;split
  ·rename_i hw
   simp only[hw,if_true]at h;unfold Oper.wpIn at h⊢;refine⟨h.1,?_⟩;have h2:=h.2;rw[a0,Oper.semAt_none]at h2;rw[Oper.semAt_eq _ _ _ (hd i o ho)];exact h2
  ·rename_i hw
   simp only[hw]at h;exact h
theorem QW {F:Fence}{n:Nat}{P:Program}{ops:Array Oper}{Q:Exit→Act→World→Prop}{md:Region.Mode}(l:Nat)(a2:F.round=none)(hd:∀(j:Nat) (o:Oper),ops[j]? =some o→∀c,o.op≠ .defer c):∀(a1:Nat) (a0:Array Bool) (a:Act) (w:World),wpAnyIn F n P md ops Q a1 a0 a w→wpAnyIn (F.inRound l) n P md ops Q a1 a0 a w
 |0,_,_,_,h=>h
 |a1+1,a0,a,w,h=>⟨h.1,fun i hi=>wpOpIn_mono (fun a' w' x=>QW l a2 hd a1 _ a' w' x) (uM l a2 hd (h.2 i hi))⟩
theorem bo (p u:List UInt8)(h:∀c∈p,c≠32):LV (p++32::u) [32]=(p,u,true):=by
 have hi:Lib.index (p++32::u) [32]=(p.length:Int):=by
  refine Lib.index_first (by simp) ?_ fun j hj=> ?_
  ·rw[Lib.occAt_iff_take _ _ _ (by simp)]
   simp
  ·rw[Bool.eq_false_iff]
   intro e;have:=Lib.occAt_head rfl e;rw[List.getElem?_append_left hj,j0d hj,Option.some.injEq]at this;exact h _ (j0c hj) this
 unfold LV;rw[hi,if_pos (by omega)];simp
theorem Fr (a:List UInt8):LX (a++ [10]) [10]=a:=by
 unfold LX Lib.hasSuffix;rw[if_pos (by rw[List.isSuffixOf_iff_suffix];exact List.suffix_append _ _)];simp
theorem BH (w:World)(o0 o1 o2 o3:Obj):((((w.alloc o0).alloc o1).alloc o2).alloc o3).heap=w.heap++ #[o0,o1,o2,o3]:=by
 simp only[World.alloc];apply Array.ext';simp only[Array.toList_append,Array.toList_push,rD,lN,mJ]
theorem CF (W:World)(M:Nat→Prop):PT W M (.slice none 0 0) []:=⟨[],rfl,⟨none,0,rfl,by simp,by simp[maxLen],fun h=>absurd h (by simp)⟩,by simp⟩
theorem Cu (l:List UInt8)(w:World):
  Calls rJ 209 #[.string ⟨l.toArray⟩] w fun e w' =>e= .returned (.func (.func 237) #[] #[.pointer (some ⟨w.heap.size,0,none⟩)])∧w' =w.alloc (.cells #[.string ⟨l.toArray⟩] 9):=by
 go_enter Tryz.func209,Tryz.ntmps209;go_wp2;go_ret;exact⟨rfl,rfl⟩
theorem Va (t:List R.Leaf):(t.map R.line).flatten=R.Written t:=by
 unfold R.Written;rw[List.flatMap_def]
theorem G0 {t:List R.Leaf}(ht:OkT t)(w:World)(M:Nat→Prop)(hM:∀b,M b→b<w.heap.size)(hG:Zy w):
  Calls rJ 159 #[.string ⟨(R.Written t).toArray⟩] w fun e w' =>∃va vn vc,e= .returned (.tuple #[.slice va vn vc,.bool true])∧PT w' M (.slice va vn vc) t∧Below w.heap.size w w' :=by
 refine(callsIn_wide (n:=3)).1 ?_;refine callsIn_of_wp_marks Tryz.func159 rfl trivial ?_ rfl;simp only[Tryz.ntmps159,sE,mC,mS,sF,Nat.reduceSub,Array.replicate_succ,Array.replicate_zero,List.push_toArray,List.append_toArray,mJ,lN];have b6:=z6 (Cu (R.Written t));obtain⟨tx,b1⟩:∃tx,tx=R.Written t:=⟨_,rfl⟩
 rw[←b1]at b6;rw[←b1];have a8:=z6 b1;clear b1;gi_wp2_with (refine⟨trivial,?_⟩;gi_at_call 209;refine(callsIn_wide.2 (b6.out _)).mono ?_;rintro e w' ⟨rfl,rfl⟩)
 obtain⟨V,hV⟩:∃V,((((w.alloc (.cells #[.slice none 0 0] 93)).alloc (.cells #[.bool false] 4)).alloc (.cells #[.slice none 0 0] 93)).alloc (.cells #[.string ⟨tx.toArray⟩] 9))=V:=⟨_,rfl⟩
 rw[hV];have hh:V.heap=w.heap++ #[.cells #[.slice none 0 0] 93,.cells #[.bool false] 4,.cells #[.slice none 0 0] 93,.cells #[.string ⟨tx.toArray⟩] 9]:=by
  rw[←hV];exact BH w _ _ _ _
 have g2:Below w.heap.size w V:=by
  rw[←hV];exact(((((j0g _ w).alloc (j0a _) _).alloc (by simp) _).alloc (by simp;omega) _).alloc (by simp;omega) _)
 have f3:V.heap.size=w.heap.size+4:=by rw[hh];simp
 have c0:=ZS (V:=V) (b:=w.heap.size) (v:= .slice none 0 0) (t:=93) (by rw[hh];simp);have c1:=ZS (V:=V) (b:=w.heap.size+1) (v:= .bool false) (t:=4) (by rw[hh];simp);have c2:=ZS (V:=V) (b:=w.heap.size+2) (v:= .slice none 0 0) (t:=93) (by rw[hh];simp);have c3:=ZS (V:=V) (b:=w.heap.size+3) (v:= .string ⟨tx.toArray⟩) (t:=9) (by rw[hh];simp);clear hV hh b6;obtain⟨M',a9⟩:∃M' :Nat→Prop,M' =fun b=>M b∨(w.heap.size≤b∧b<w.heap.size+6):=⟨_,rfl⟩
 have a5:∀b,w.heap.size≤b→b<w.heap.size+6→M' b:=fun b h1 h2=>by rw[a9];exact .inr ⟨h1,h2⟩
 have g0:∀b,M' b→b<w.heap.size+6:=fun b hb=>by
  rw[a9]at hb;rcases hb with hb|hb
  ·have:=hM b hb;omega
  ·exact hb.2
 have g1:∀b,M b→M' b:=fun b hb=>by rw[a9];exact .inl hb
 clear a9;have f9:∀y∈t.map R.line,∃u,y=u++ [10]∧∀z∈u,z≠10:=by
  intro y hy;obtain⟨x,hx,rfl⟩:=List.mem_map.1 hy;have e9:=ht.ok x hx;refine⟨x.path++32::R.written x,by simp[R.line],fun z hz=> ?_⟩;rcases List.mem_append.1 hz with hz|hz
  ·exact(e9.no32 z hz).2
  ·rcases iC.1 hz with rfl|hz
   ·decide
   ·exact e9.no10 z hz
 have i2:tx.length≤216000:=by rw[a8.out];exact ht.len
 rw[a8.out,←Va]at c3;have a2:=gQ (L:=t.map R.line) f9 (by rw[Va,←a8.out];omega) (w.heap.size+3) V c3.1 c3.2 2 (by omega);rw[pA]at a2;have b7:Bi w M' (w.heap.size+2) [(w.heap.size,.slice none 0 0),(w.heap.size+1,.bool false)] (.slice none 0 0) (t.take 0) V:=by
  refine⟨fun p hp=> ?_,?_,g2⟩
  ·simp only[iC,iI,or_false]at hp
   rcases hp with rfl|rfl|rfl
   ·exact⟨by show _+2<_;omega,c2⟩
   ·exact⟨by show _<_;omega,c0⟩
   ·exact⟨by show _+1<_;omega,c1⟩
  ·rw[List.take_zero]
   exact CF V M'
 refine JP rfl (by omega) (gf:=237) (lb:= #[.pointer (some ⟨w.heap.size+3,0,none⟩)]) rfl trivial (enters_of Tryz.func237 (by kernel_rfl) rfl) a2 (by omega) (fun b hb=>by omega) (fun _=>rfl)
  (fun j W=>∃tv,Bi w M' (w.heap.size+2) [(w.heap.size,.slice none 0 0),(w.heap.size+1,.bool false)] tv (t.take j) W)
  (Bi.each ⟨_,b7⟩ (fun b hb=>⟨a5 b (by omega) (by omega),by omega⟩) (fun b hb=>by simp only[List.map_cons,List.map_nil,iC,iI,or_false]at hb;omega))
  (fun j=>{tmps:= #[.string ⟨tx.toArray⟩,undef,.pointer (some ⟨w.heap.size,0,none⟩),.pointer (some ⟨w.heap.size+1,0,none⟩),.pointer (some ⟨w.heap.size+2,0,none⟩),.string ⟨((t.map R.line)[j]?.getD []).toArray⟩,undef,undef,undef,undef,.string ⟨tx.toArray⟩,.func (.func 237) #[] #[.pointer (some ⟨w.heap.size+3,0,none⟩)],.string ⟨((t.map R.line)[j]?.getD []).toArray⟩,undef,undef,undef,undef,undef,undef,undef,undef,undef,undef,undef,undef,undef,undef,undef,undef,undef,undef,undef,undef,undef,undef,undef,undef,undef,undef,undef,undef,undef,undef,undef],defers:=[]}) ?assign ?body ?done
 case assign=>
  intro l k W K hK;simp only[qV];generalize((t.map R.line)[k]?.getD [])=pc at*;gi_wp2
  exact hK
 case body=>
  rintro l k W b8 g7 ⟨tv,a0⟩;have e0:=(a0.box (w.heap.size+2,tv) (by simp)).2.1;have d6:=(a0.box (w.heap.size+2,tv) (by simp)).2.2;rw[f3]at g7;have hN:=BV ht k b8;obtain⟨ta,tc,c7⟩:=yU a0.pt;subst c7;have e8:(t.map R.line)[k]?.getD []=R.line t[k]:=by rw[List.getElem?_map,j0d b8];rfl
  rw[e8];have f4:t.take (k+1)=t.take k++ [t[k]]:=mD b8;have f6:=z6 f4;have a4:=z6 a0;obtain⟨mx,a6⟩:=(hG.below a0.below).mx;clear e8 f4 a0 b7 a2 c0 c1 c2 c3;generalize t[k]=x at*;generalize t.take k=T at*;have g9:=R.line_length x;have c6:R.line x=(x.path++32::R.written x)++ [10]:=by simp[R.line]
  have b9:=oZ hN.leaf;obtain⟨c,r,hw⟩:∃c r,R.written x=c::r:=by
   unfold R.written;split
   ·exact⟨_,_,rfl⟩
   ·split<;>exact⟨_,_,rfl⟩
  have f5:=z6 (fun(W2:World) (a1:Below W.heap.size W W2)=>Bh hN (.slice ta T.length tc) W2 M' (fun b hb=>by have:=g0 b hb;have:=a1.size;omega) (a4.out.pt.below a1) c r hw);have d5:Hid (∀W:World,Calls rJ 211 #[.string ⟨(R.line x).toArray⟩,.string ⟨#[10]⟩] W fun e w' =>e= .returned (.string ⟨(x.path++32::c::r).toArray⟩)∧w' =W):=fun W=>by
   have:=Tryz.strings_TrimSuffix ⟨(R.line x).toArray⟩ ⟨#[10]⟩ W (by simp[aF];omega);rw[show LX (rS (R.line x).toArray).data.toList (rS #[10]).data.toList=x.path++32::c::r by rw[←hw];show LX (R.line x) [10]=_;rw[c6,Fr]]at this;exact this
  have d3:Hid (∀(W2:World) (a1:Below W.heap.size W W2),Calls rJ 210 #[.string ⟨(x.path++32::c::r).toArray⟩,.string ⟨#[32]⟩] W2 fun e w' =>e= .returned (.tuple #[.string ⟨x.path.toArray⟩,.string ⟨(c::r).toArray⟩,.bool true])∧Below W.heap.size W w'):=fun W2 a1=>by
   have h0:W2.cell? ⟨0,0,none⟩=some (.int .i64 mx):=by
    rw[pU (a:=⟨0,0,none⟩) (a1.block 0 (by omega))];exact a6
   have:=Tryz.strings_Cut ⟨(x.path++32::c::r).toArray⟩ ⟨#[32]⟩ mx W2 (by rw[c6,hw]at b9;simp only[mB,mC]at b9;simp[aF];omega) h0;rw[show LV (rS (x.path++32::c::r).toArray).data.toList (rS #[32]).data.toList=(x.path,c::r,true)from bo _ _ fun z hz=>(hN.leaf.no32 z hz).1]at this;refine this.mono fun e w' ⟨h1,n,h2⟩=>⟨h1,?_⟩
   rw[h2];exact⟨a1.os,a1.tape,a1.output,a1.size,a1.block⟩
  have d4:Hid (∀(W2:World) (a1:Below W.heap.size W W2),Calls rJ 92 #[.string ⟨x.path.toArray⟩] W2 fun e w' =>e= .returned (.bool true)∧Below W.heap.size W w'):=fun W2 a1=>by
   have h0:W2.cell? ⟨0,0,none⟩=some (.int .i64 mx):=by
    rw[pU (a:=⟨0,0,none⟩) (a1.block 0 (by omega))];exact a6
   refine(Oi x.path W2 (by have:=yZ _ hN.leaf.path;unfold maxLen;omega) mx h0).mono fun e w' h=> ?_
   rw[hN.leaf.path]at h;exact⟨h.1,a1.trans (h.2.mono a1.size)⟩
  dsimp only at e0 d6⊢;have g8:(rS (R.line x).toArray).size=(R.line x).length:=by simp[aF]
  clear g9 c6 b9 a6 hw g8;generalize R.line x=lx at*;gi_wp2
  refine⟨trivial,?_⟩;gi_at_call 211
  refine(CallsIn.inRound l (callsIn_wide.2 (d5.out W))).mono ?_;rintro e w' ⟨rfl,c8⟩;replace c8 :=c8.symm;subst c8;gi_wp2
  refine⟨trivial,?_⟩;gi_at_call 210
  refine(CallsIn.inRound l (callsIn_wide.2 (d3.out W (j0g _ _)))).mono ?_;rintro e W1 ⟨rfl,e6⟩;have c9:=z6 e6;clear e6 d5 d3;gi_wp2
  refine⟨trivial,?_⟩;gi_at_call 92
  refine(CallsIn.inRound l (callsIn_wide.2 (d4.out W1 c9.out))).mono ?_;rintro e W2 ⟨rfl,a3⟩;have b2:=z6 a3;clear a3 c9 d4;gi_wp2
  have e7:W2.cell? ⟨w.heap.size+2,0,none⟩=some (.slice ta T.length tc):=by
   rw[pU (a:=⟨w.heap.size+2,0,none⟩) (b2.out.block _ (by show w.heap.size+2<_;omega))];exact e0
  have g4:=J8 c r;have a6:Tryz.prog.follows .mixedOrders=true:=by kernel_rfl
  have g5:(rS (c::r).toArray).size=r.length+1:=by simp[aF]
  have b4:Hid (∀(X:World) (ra:Option Addr) (rn rc:Nat),PT X M' (.slice ra rn rc) (T++ [x])→Below W.heap.size W X→X.cell? ⟨w.heap.size+2,0,none⟩=some (.slice ta T.length tc)∧X.frozen? ⟨w.heap.size+2,0,none⟩=false):=fun X ra rn rc _ hX=>by
   rw[pU (a:=⟨w.heap.size+2,0,none⟩) (hX.block _ (by show w.heap.size+2<_;omega)),DL (a:=⟨w.heap.size+2,0,none⟩) (hX.block _ (by show w.heap.size+2<_;omega))];exact⟨e0,d6⟩
  refine wpIn_region_any a6 (QW l rfl (by
   intro j o hj c;have:j<12∨12≤j:=by omega
   rcases this with h|h
   ·rcases(by omega:j=0∨j=1∨j=2∨j=3∨j=4∨j=5∨j=6∨j=7∨j=8∨j=9∨j=10∨j=11)with rfl|rfl|rfl|rfl|rfl|rfl|rfl|rfl|rfl|rfl|rfl|rfl<;>(injection hj with hj;subst hj;intro e;cases e)
   ·rw[Array.getElem?_eq_none (by simpa using h)]at hj
    cases hj) _ _ _ _ ?_)
  simp only[sE,mC,mS,sF,Nat.zero_add];have e2:Below W.heap.size W {W2 with drawn:=W2.drawn+1}:=b2.out.drew;have g3 :({W2 with drawn:=W2.drawn+1}:World).cell? ⟨w.heap.size+2,0,none⟩=some (.slice ta T.length tc):=e7;have b3:=z6 e2;have b5:(1:Int)≤(r.length:Int)+1:=by omega
  clear e2 e7 b2;generalize({W2 with drawn:=W2.drawn+1}:World)=W4 at*;refine wpAnyIn_take (i:=1) (v:= ?_) rfl rfl (by kernel_rfl) (by kernel_rfl) (by kernel_rfl) (fun _ _ _ h=>h) ⟨Or.inl ⟨by rfl,?h1⟩,fun _=>rfl⟩ ?_
  case h1=>
   intro w;go_simp
   try rfl
  try walk_nrm
  refine wpAnyIn_take (i:=2) (v:= ?_) rfl rfl (by kernel_rfl) (by kernel_rfl) (by kernel_rfl) (fun _ _ _ h=>h) ⟨Or.inl ⟨by rfl,?h2⟩,fun _=>rfl⟩ ?_
  case h2=>
   intro w;go_simp
   try rfl
  try walk_nrm
  refine wpAnyIn_take (i:=3) (v:= ?_) rfl rfl (by kernel_rfl) (by kernel_rfl) (by kernel_rfl) (fun _ _ _ h=>h) ⟨Or.inl ⟨by rfl,?h3⟩,fun _=>rfl⟩ ?_
  case h3=>
   intro w;go_simp
   try rfl
  try walk_nrm
  refine wpAnyIn_take (i:=4) (v:= ?_) rfl rfl (by kernel_rfl) (by kernel_rfl) (by kernel_rfl) (fun _ _ _ h=>h) ⟨Or.inl ⟨by rfl,?h4⟩,fun _=>rfl⟩ ?_
  case h4=>
   intro w;go_simp
   try rfl
  try walk_nrm
  refine wpAnyIn_take (i:=5) (v:= ?_) rfl rfl (by kernel_rfl) (by kernel_rfl) (by kernel_rfl) (fun _ _ _ h=>h) ⟨Or.inl ⟨by rfl,?h5⟩,fun _=>rfl⟩ ?_
  case h5=>
   intro w;go_simp
   try rfl
  try walk_nrm
  refine wpAnyIn_ready (rs:=[0]) (by kernel_rfl) (by simp) ?_;refine AllReadyIn.cons rfl (fun K hK=> ?_) AllReadyIn.nil;go_simp
  refine hK _ _ ?_;clear hK K;try walk_nrm
  refine wpAnyIn_ready (rs:=[6]) (by kernel_rfl) (by simp) ?_;refine AllReadyIn.cons rfl (fun K hK=> ?_) AllReadyIn.nil;go_simp
  refine⟨trivial,?_⟩;refine(callsIn_wide.2 (f5.out W4 b3.out)).mono ?_;rintro e W3 ⟨ra,rn,rc,rfl,f0,g6⟩;have a7:=b3.out.trans (g6.mono b3.out.size);obtain⟨i0,i1⟩:=b4.out W3 ra rn rc f0 a7;dsimp only;refine hK _ _ ?_;clear hK K;try walk_nrm
  refine wpAnyIn_take (i:=7) (v:= ?_) rfl rfl (by kernel_rfl) (by kernel_rfl) (by kernel_rfl) (fun _ _ _ h=>h) ⟨Or.inl ⟨by rfl,?h7⟩,fun _=>rfl⟩ ?_
  case h7=>
   intro w;go_simp
   try rfl
  try walk_nrm
  refine wpAnyIn_take (i:=8) (v:= ?_) rfl rfl (by kernel_rfl) (by kernel_rfl) (by kernel_rfl) (fun _ _ _ h=>h) ⟨Or.inl ⟨by rfl,?h8⟩,fun _=>rfl⟩ ?_
  case h8=>
   intro w;go_simp
   try rfl
  try walk_nrm
  refine wpAnyIn_take (i:=9) (v:= ?_) rfl rfl (by kernel_rfl) (by kernel_rfl) (by kernel_rfl) (fun _ _ _ h=>h) ⟨Or.inl ⟨by rfl,?h9⟩,fun _=>rfl⟩ ?_
  case h9=>
   intro w;go_simp
   try rfl
  try walk_nrm
  refine wpAnyIn_ready (rs:=[10]) (by kernel_rfl) (by simp) ?_;refine AllReadyIn.cons rfl (fun K hK=> ?_) AllReadyIn.nil;go_simp
  refine hK _ _ ?_;clear hK K;try walk_nrm
  refine wpAnyIn_take (i:=11) (v:= ?_) rfl rfl (by kernel_rfl) (by kernel_rfl) (by kernel_rfl) (fun _ _ _ h=>h) ⟨Or.inl ⟨by rfl,?h11⟩,fun _=>rfl⟩ ?_
  case h11=>
   intro w;go_simp
   try rfl
  try walk_nrm
  refine wpAnyIn_done (by kernel_rfl) ?_ _;simp only[Exit.then];gi_wp2
  refine⟨⟨_,a4.out.set a7 (by rw[f6.out];exact f0) ⟨a5 _ (by omega) (by omega),by omega⟩ (by simp)⟩,fun b hb=>qh a7 _ _ b (by omega) (by omega),VP (by rw[QX];exact a7.size) (fun k h1 h2=>qh a7 _ _ k h2 (by omega))⟩
 case done=>
  rintro D W hD ⟨tv,a0⟩ hK;rw[f3]at hD;subst hD;rw[wN]at a0;have e0:=(a0.box (w.heap.size+2,tv) (by simp)).2.1;obtain⟨s0,d7,d8⟩:=a0.box (w.heap.size,.slice none 0 0) (by simp);obtain⟨s1,d9,e1⟩:=a0.box (w.heap.size+1,.bool false) (by simp);obtain⟨ta,tc,c7⟩:=yU a0.pt;subst c7;dsimp only at e0 d7 d8 d9 e1 s0 s1;have f7:Hid (∀(X:World),Below W.heap.size W X→Calls rJ 50 #[.slice ta t.length tc] X fun e w' =>e= .returned (.string ⟨tx.toArray⟩)∧Below W.heap.size W w' ∧w'.cell? ⟨w.heap.size+2,0,none⟩=some (.slice ta t.length tc)∧w'.cell? ⟨w.heap.size,0,none⟩=some (.slice none 0 0)∧w'.frozen? ⟨w.heap.size,0,none⟩=false∧w'.cell? ⟨w.heap.size+1,0,none⟩=some (.bool false)∧w'.frozen? ⟨w.heap.size+1,0,none⟩=false):=fun X hX=>by
   have:=Yz (.slice ta t.length tc) t X M' (a0.pt.below hX) ht.ok (by have:=ht.few;omega) ((hG.below a0.below).below hX);rw[←a8.out]at this;refine this.mono fun e w' ⟨h1,h2⟩=> ?_
   have hb:=hX.trans (h2.mono hX.size);have s2:=(a0.box (w.heap.size+2,.slice ta t.length tc) (by simp)).1;refine⟨h1,hb,?_,?_,?_,?_,?_⟩
   ·rw[pU (a:=⟨w.heap.size+2,0,none⟩) (hb.block _ s2)];exact e0
   ·rw[pU (a:=⟨w.heap.size,0,none⟩) (hb.block _ s0)];exact d7
   ·rw[DL (a:=⟨w.heap.size,0,none⟩) (hb.block _ s0)];exact d8
   ·rw[pU (a:=⟨w.heap.size+1,0,none⟩) (hb.block _ s1)];exact d9
   ·rw[DL (a:=⟨w.heap.size+1,0,none⟩) (hb.block _ s1)];exact e1
  have a4:=z6 a0;have HK:=z6 hK;clear a0 hK b7 a2 c0 c1 c2 c3;gi_wp2
  refine wpIn_mono (Q:=Exit.then (fun a' X=>a' ={tmps:= #[.string ⟨tx.toArray⟩,undef,.pointer (some ⟨w.heap.size,0,none⟩),.pointer (some ⟨w.heap.size+1,0,none⟩),.pointer (some ⟨w.heap.size+2,0,none⟩),undef,undef,undef,undef,undef,.string ⟨tx.toArray⟩,.func (.func 237) #[] #[.pointer (some ⟨w.heap.size+3,0,none⟩)],undef,undef,undef,undef,undef,undef,undef,undef,undef,undef,undef,undef,undef,undef,undef,undef,undef,undef,undef,undef,undef,undef,undef,undef,undef,undef,undef,.slice ta t.length tc,.slice ta t.length tc,.string ⟨tx.toArray⟩,.string ⟨tx.toArray⟩,.bool true],defers:=[{target:= .collected (w.heap.size+4),args:= #[]}]}∧∃W2,Below W.heap.size W W2∧X=(W2.setCell ⟨w.heap.size,0,none⟩ (.slice ta t.length tc)).setCell ⟨w.heap.size+1,0,none⟩ (.bool true)∧W2.cell? ⟨w.heap.size,0,none⟩=some (.slice none 0 0)∧W2.cell? ⟨w.heap.size+1,0,none⟩=some (.bool false)) (fun _ _ _=>False)) (wpIn_wide.2 ?_) ?_
  ·go_region_with (go_at_call 50;refine(f7.out _ (by first|exact(j0g _ _).drew|exact j0g _ _)).mono ?_;rintro e W2 ⟨rfl,a3,q0,q1,q2,q3,q4⟩)
   all_goals exact⟨rfl,W2,a3,rfl,q1,q3⟩
  ·intro e a' X h
   rcases e with _|_|_|_|_|_<;>try exact h.elim
   obtain⟨rfl,W2,a3,rfl,q1,q3⟩:=h;have f8:((W2.setCell ⟨w.heap.size,0,none⟩ (.slice ta t.length tc)).setCell ⟨w.heap.size+1,0,none⟩ (.bool true)).heap[w.heap.size+4]? =some (.deferred (some [])):=by
    exact(((Below.heap_setCell _ ⟨w.heap.size+1,0,none⟩ _ (w.heap.size+4) (by show w.heap.size+4≠w.heap.size+1;omega)).trans (Below.heap_setCell _ ⟨w.heap.size,0,none⟩ _ (w.heap.size+4) (by show w.heap.size+4≠w.heap.size;omega))).trans (a3.block _ (Array.getElem?_eq_some_iff.1 HK.out).1)).trans HK.out
   have k2:(((W2.setCell ⟨w.heap.size,0,none⟩ (.slice ta t.length tc)).setCell ⟨w.heap.size+1,0,none⟩ (.bool true)).putObj (w.heap.size+4) (.deferred none)).cell? ⟨w.heap.size,0,none⟩=some (.slice ta t.length tc):=by
    rw[kf _ _ (by omega),j7 _ _ (by omega)];exact LM _ _ _ (by rw[q1];rfl)
   have k3:(((W2.setCell ⟨w.heap.size,0,none⟩ (.slice ta t.length tc)).setCell ⟨w.heap.size+1,0,none⟩ (.bool true)).putObj (w.heap.size+4) (.deferred none)).cell? ⟨w.heap.size+1,0,none⟩=some (.bool true):=by
    rw[kf _ _ (by omega)];exact LM _ _ _ (by rw[j7 _ _ (by omega),q3];rfl)
   have e3:Bi w M' (w.heap.size+2) [] (.slice ta t.length tc) t (((W2.setCell ⟨w.heap.size,0,none⟩ (.slice ta t.length tc)).setCell ⟨w.heap.size+1,0,none⟩ (.bool true)).putObj (w.heap.size+4) (.deferred none)):=by
    have h1:Bi w M' (w.heap.size+2) [] (.slice ta t.length tc) t W:=⟨fun p hp=>a4.out.box p (by simp only[iC,iI,or_false]at hp⊢;exact .inl hp),a4.out.pt,a4.out.below⟩
    have h2:=h1.step (ze.of_below (M:=fun _=>False) a3) fun b e=>e.elim
    refine Bi.step (Z:=fun b=>b=w.heap.size∨b=w.heap.size+1) h2 ((((ze.refl _ W2).setCell (p:=⟨w.heap.size,0,none⟩) (.inl (.inl rfl)) _)).setCell (p:=⟨w.heap.size+1,0,none⟩) (.inl (.inr rfl)) _) ?_|>.step (Q5 _ (w.heap.size+4) _) ?_
    ·rintro b (rfl|rfl)
     ·exact⟨a5 _ (by omega) (by omega),by omega,fun p hp=>by simp only[iC,iI,or_false]at hp;rw[hp];simp⟩
     ·exact⟨a5 _ (by omega) (by omega),by omega,fun p hp=>by simp only[iC,iI,or_false]at hp;rw[hp];simp⟩
    ·rintro b rfl
     exact⟨a5 _ (by omega) (by omega),by omega,fun p hp=>by simp only[iC,iI,or_false]at hp;rw[hp];simp⟩
   gi_wp2
   refine⟨by simp,.inl ⟨_,_,rfl,run_takeDeferred f8,?_⟩⟩;generalize(((W2.setCell ⟨w.heap.size,0,none⟩ (.slice ta t.length tc)).setCell ⟨w.heap.size+1,0,none⟩ (.bool true)).putObj (w.heap.size+4) (.deferred none))=W3 at*;refine⟨.tuple #[.slice ta t.length tc,.bool true],by simp[results,Tryz.results159,go_sem,k2,k3],?_⟩;exact⟨ta,t.length,tc,rfl,e3.pt.step (ze.refl (fun _=>False) _) (fun _ e=>e.elim) (fun b hb=> .inl (g1 b hb)),e3.below⟩
end
def dj (w:World)(M:Nat→Prop)(c:R.Cm)(e:Ending)(w' :World):Prop:=∃pa pc,e= .returned (.tuple #[.slice pa c.parents.length pc,.string ⟨(R.Written c.tree).toArray⟩,.bool true])∧Rd w' M (.slice pa c.parents.length pc) c.parents.length (Xa c.parents)∧Below w.heap.size w w'
theorem JC {w:World}{M O:Nat→Prop}{B:Nat}{st:R.St}(h:PS w M O B st)(hM:∀b,M b→b<w.heap.size)(g8:st.cms.length≤60)(c:R.Cm)(hc:R.CmOk st c):
  Calls rJ 158 #[.pointer (some ⟨B,0,none⟩),.string ⟨(R.bodyC c).toArray⟩] w (dj w M c):=by
 have d9:=hc.tree.len;have h2:=hc.two;have a5:=hc.par;have d7:=hc.nodup;obtain⟨np,a3⟩:∃np,np=c.parents.length:=⟨_,rfl⟩
 obtain⟨tx,b7⟩:∃tx,tx=R.Written c.tree:=⟨_,rfl⟩
 obtain⟨rs,a9⟩:∃rs,rs=c.parents.map mA++tx:=⟨_,rfl⟩
 have a1:R.bodyC c=mA np::rs:=by rw[a3,a9,b7];rfl
 have b6:rs.length=np+tx.length:=by rw[a9,mB,pA,a3]
 have d4:(mA np).toNat=np:=by rw[nT];omega
 have g2 :tx.length≤216000:=by rw[b7];exact d9
 have f0:=J8 (mA np) rs;have g9:(rS rs.toArray).extract np (np+tx.length)=⟨tx.toArray⟩:=by
  have:=QG (c.parents.map mA) tx (np+tx.length) (by simp[a3]);rw[pA,←a3,←a9]at this;exact this
 have d6:∀(k p:Nat),c.parents[k]? =some p→∀hz:k<(rS rs.toArray).size,((rS rs.toArray)[k]'hz).toNat=p:=fun k p hp hz=>by
  obtain⟨hk,he⟩:=wD.1 hp;have i3:=a5 _ (iK hp);have e:(rS rs.toArray)[k]'hz=mA p:=by
   show rs.toArray[k]=_;subst a9;simp[List.getElem_append_left,List.getElem_map,hk,he]
  rw[e,nT];omega
 unfold dj;rw[a1,←b7,←a3];have e8:=z6 h;have e6:=z6 d6;have c6:=z6 a5;have e7:=z6 d7;have c9:=z6 a3;have i5:(rS rs.toArray).size=np+tx.length:=by simp[aF,b6]
 have g1:(rS (mA np::rs).toArray).size=np+tx.length+1:=by simp[aF,b6]
 have g7:np≤2:=by omega
 rw[b6]at f0;clear hc h d6 a5 d7 a3 b7 a9 a1 b6 d9 h2;generalize(rS rs.toArray)=rb at*;go_enter Tryz.func158,Tryz.ntmps158;go_wp2;have b1:(1:Int)≤(np:Int)+(tx.length:Int)+1:=by omega
 have b2:¬(2:Int)<(np:Int):=by omega
 have b3:¬(np:Int)+(tx.length:Int)<(np:Int):=by omega
 have d5:∀hz:0<(rS (mA np::rs).toArray).size,((rS (mA np::rs).toArray)[0]'hz).toNat=np:=fun _=>d4
 generalize(rS (mA np::rs).toArray)=bb at*;have g4:0<bb.size:=by omega
 have e0:=d5 g4;clear d5 d4;go_region_with (fail)
 clear e0;go_wp2;have f3:Hid (∀(X:World) (p:Nat),Below w.heap.size w X→(1≤p∧p≤st.cms.length)→Calls rJ 51 #[.pointer (some ⟨B,0,none⟩),.int .i64 (p:Int)] X fun e w' =>e= .returned (.bool true)∧w' =X):=fun X p hX hp=>by
  have:=ZV (e8.out.below hX) (p:Int);rw[decide_eq_true (by omega)]at this;exact this
 go_loopw [9,28] (fun pv iv wr=>∃(k:Nat) (la:Option Addr) (lc:Nat),k≤np∧iv= .int .i64 (k:Int)∧pv= .slice la k lc∧wr.ownsRow w.heap.size 3 1 (.slice la k lc) k (Xa (c.parents.take k))∧Below w.heap.size w wr) (fun _ iv _=>2-(intOf iv).toNat)
 case atStart=>exact⟨0,none,0,sQ _,rfl,rfl,World.ownsRow_nil _ _ _ _,(j0g _ w).drew⟩
 case round=>
  obtain⟨k,la,lc,hk,rfl,rfl,a4,c7⟩:=hrel;have HO:=z6 a4;have HB:=z6 c7;obtain⟨_,_,g3,h0,f8,a2,a0⟩:=zl a4;injection g3 with e1 e2 e3
  subst e1 e3;unfold maxLen at f8;have i6:=c7.size;clear a4 c7;by_cases f9:k<np
  ·have f6:k<c.parents.length:=by rw[←c9.out];exact f9
   obtain⟨p,hp⟩:∃p,c.parents[k]? =some p:=⟨_,j0d f6⟩
   have f7:k<rb.size:=by omega
   have f4:=e6.out k p hp f7;have g0:=c6.out p (iK hp);have d8:Xa (c.parents.take (k+1))=Xa (c.parents.take k)++ [.int .i64 (p:Int)]:=by
    rw[LY,hp];simp[Xa]
   have d3:=z6 d8;have HP:=z6 hp;have HH:=z6 (f3.out wr p HB.out g0);have g5:(0:Int)≤(k:Int):=by omega
   have g6:(k:Int)<(np:Int)+(tx.length:Int):=by omega
   clear d8 hp;rcases(by omega:k=0∨k=1)with rfl|rfl
   ·go_wp2_with fail
    refine HH.out.mono ?_;rintro e W1 ⟨rfl,hw⟩;replace hw:=hw.symm;subst hw;go_wp2_with (at_builtin;go_loud (refine gd wr rfl _ _ 39 rfl w.heap.size 3 (.int .i64 0) 1 8 sW XW rfl (by decide) HO.out _ rfl (by rfl) (by rfl) (by intro u hu;simp at hu;subst hu;rfl) (by unfold maxLen;omega) (by omega) (by omega) ?_))
    intro v' W2 ho a8;have a6:Below w.heap.size w W2:=HB.out.grown a8 HB.out.size (fun b e=>(HO.out.lt b e).1);obtain⟨b4,b5,c8,_⟩:=zl ho;subst c8;have b9:Hid (W2.ownsRow w.heap.size 3 1 (.slice b4 (1) b5) (1) (Xa (c.parents.take (0+1)))):=by
     show LZ _ _ _ _ _ _ _;rw[d3.out];exact ho
    have b8:=z6 a6;clear ho a8 a6 HO HB a0 a2;go_wp2;go_roundw
    case rel=>exact⟨1,b4,b5,by omega,rfl,rfl,b9.out,b8.out⟩
    case measure=>simp[intOf]
   ·obtain⟨q,hq⟩:∃q,c.parents[0]? =some q:=⟨_,j0d (by omega)⟩
    have i4:p≠q:=by
     intro e;subst e;obtain⟨i1,j1⟩:=wD.1 HP.out;obtain⟨i0,j0⟩:=wD.1 hq;have:=List.pairwise_iff_getElem.1 e7.out 0 1 i0 i1 (by omega);exact this (by rw[j0,j1])
    obtain⟨g,rfl,hg⟩:∃g,la=some ⟨g,0,none⟩∧wr.cell? ⟨g,0,none⟩=some (.int .i64 (q:Int)):=by
     cases la with
     |none=>have:=(a2 rfl).1;omega
     |some ad=>
      obtain⟨g,rfl,_,_,_,a7⟩:=a0 ad rfl;refine⟨g,rfl,a7 0 _ ?_⟩;simp[Xa,LY,hq]
    have i2:((p:Int)==(q:Int))=false:=by rw[beq_eq_false_iff_ne];omega
    go_wp2_with fail
    refine HH.out.mono ?_;rintro e W1 ⟨rfl,hw⟩;replace hw:=hw.symm;subst hw;go_wp2_with (at_builtin;go_loud (refine gd wr rfl _ _ 39 rfl w.heap.size 3 (.int .i64 0) 1 8 sW XW rfl (by decide) HO.out _ rfl (by rfl) (by rfl) (by intro u hu;simp at hu;subst hu;rfl) (by unfold maxLen;omega) (by omega) (by omega) ?_))
    intro v' W2 ho a8;have a6:Below w.heap.size w W2:=HB.out.grown a8 HB.out.size (fun b e=>(HO.out.lt b e).1);obtain⟨b4,b5,c8,_⟩:=zl ho;subst c8;have b9:Hid (W2.ownsRow w.heap.size 3 1 (.slice b4 (2) b5) (2) (Xa (c.parents.take (1+1)))):=by
     show LZ _ _ _ _ _ _ _;rw[d3.out];exact ho
    have b8:=z6 a6;clear ho a8 a6 HO HB a0 a2;go_wp2;go_roundw
    case rel=>exact⟨2,b4,b5,by omega,rfl,rfl,b9.out,b8.out⟩
    case measure=>simp[intOf]
  ·have f5:k=np:=by omega
   subst f5;have e9:Hid (Rd wr M (.slice la k lc) k (Xa c.parents)):=by
    have:=Rd.of_owns HO.out hM;rw[show c.parents.take k=c.parents from List.take_of_length_le (by rw[←c9.out];omega)]at this;exact this
   go_wp2;go_region_with (fail)
   go_wp2;refine bodyPost_ret (v:= .tuple #[.slice la k lc,.string ⟨tx.toArray⟩,.bool true]) (by simp[results,Tryz.results158,go_sem]) rfl ?_;exact⟨la,lc,rfl,(e9.out:Rd wr M _ _ _),HB.out.drew⟩
structure Fi (w:World)(M O:Nat→Prop)(B:Nat)(st:R.St):Prop where
 ps:PS w M O B st
 inv:Inv st
 low:∀b,M b→b<w.heap.size
 glob:Zy w
 six:∀b,O b→6≤b
 pk:st.packed.length≤1000000000000
section
variable {w:World}{M O:Nat→Prop}{B:Nat}{st:R.St}
theorem Fi.below (h:Fi w M O B st){W:World}(hb:Below w.heap.size w W):Fi W M O B st:=
 ⟨h.ps.below hb,h.inv,fun b hm=>j0b (h.low b hm) hb.size,h.glob.below hb,h.six,h.pk⟩
theorem J0 (h:Fi w M O B st)(c:R.Cm)(hc:R.CmOk st c):
  Calls rJ 111 #[.pointer (some ⟨B,0,none⟩),.string ⟨(R.bodyC c).toArray⟩] w fun e w' =>e= .returned (.bool true)∧zv w w' M O B (R.keepC st c):=by
 obtain⟨ca,cc,c1,a7,a4⟩:=h.ps.cms1;unfold maxLen at a4;have a6:=hc.few;have a5:¬(60:Int)≤(st.cms.length:Int):=by omega
 have HP:=z6 (JC h.ps h.low (by omega) c hc);have HH:=z6 h;have HC:=z6 hc;generalize R.bodyC c=bd at*;clear h hc;go_enter Tryz.func111,Tryz.ntmps111;go_wp2_with fail
 refine HP.out.mono ?_;rintro e W1 ⟨pa,pc,rfl,hr,a1⟩;have HR:=z6 hr;have a2:=z6 a1;have HT:=z6 (G0 HC.out.tree W1 M (fun b hm=>j0b (HH.out.low b hm) a1.size) (HH.out.glob.below a1));clear hr a1 HP;generalize R.Written c.tree=tx at*;go_wp2_with fail
 refine HT.out.mono ?_;rintro e W2 ⟨ta,tn,tc,rfl,ht,a3⟩;have a0:=z6 (a2.out.trans (a3.mono a2.out.size));have HK:=z6 (Bj (HH.out.ps.below a0.out) c pa pc ta tn tc ht (HR.out.kept (ze.of_below a3)) (fun b hm=>j0b (HH.out.low b hm) a0.out.size) HC.out.tree HC.out.two HC.out.few HH.out.pk (HH.out.glob.below a0.out) HH.out.six);clear ht a3 HT HR a2;generalize c.parents.length=pl at*;go_wp2_with fail
 refine HK.out.mono ?_;rintro e W3 ⟨rfl,hs⟩;have HS:=z6 (zv.after a0.out hs);clear hs HK;go_wp2;go_ret;exact⟨rfl,HS.out⟩
theorem jz (st:R.St)(name:List UInt8)(n:Nat):xu st name n=R.headR st name n:=by
 unfold xu R.headR;rfl
theorem Uw (h:Fi w M O B st)(name:List UInt8)(n:Nat)(hn:R.isName name=true)(hh:n≤st.cms.length)(hm:R.fnd st.brs name<st.brs.length∨st.brs.length<6):
  Calls rJ 112 #[.pointer (some ⟨B,0,none⟩),.string ⟨(mA n::name).toArray⟩] w fun e w' =>e= .returned (.bool true)∧zv w w' M O B (R.headR st name n):=by
 have a8:=h.inv.few;have b2:=ZK _ hn;have a2:(mA n).toNat=n:=by rw[nT];omega
 have a9:=J8 (mA n) name;have HN:Hid (∀W:World,Calls rJ 53 #[.string ⟨name.toArray⟩] W fun e w' =>e= .returned (.bool true)∧w' =W):=fun W=>by
  have:=kS name W (by unfold maxLen;omega);rw[hn]at this;exact this
 have HC:Hid (∀W:World,Below w.heap.size w W→1≤n→Calls rJ 51 #[.pointer (some ⟨B,0,none⟩),.int .i64 (n:Int)] W fun e w' =>e= .returned (.bool true)∧w' =W):=fun W hW h1=>by
  have:=ZV (h.ps.below hW) (n:Int);rw[decide_eq_true (by omega)]at this;exact this
 obtain⟨bv,cv,LB,LCm,hx⟩:=id h.ps;have HF:=z6 (fun(W:World) (hW:Below w.heap.size w W)=>Qa (hx.below hW) h.inv name);have a5:(R.fnd st.brs name<st.brs.length∧∃g,Zp LB st name=some ⟨g,0,none⟩)∨(¬R.fnd st.brs name<st.brs.length∧Zp LB st name=none∧grown st name n=(0,R.headR st name n)):=by
  by_cases hf:R.fnd st.brs name<st.brs.length
  ·obtain⟨hl,he,_⟩:=ZI hx name hf
   exact .inl ⟨hf,_,he⟩
  ·refine .inr ⟨hf,if_neg hf,?_⟩
   have h6:=hm.resolve_left hf;unfold grown R.headR;rw[if_neg (by unfold R.fndI;rw[if_neg hf];decide),if_neg (by omega),if_neg hf]
 have HP:=z6 (fun(W:World) (hW:Below w.heap.size w W)=>GE B st name n W M O (h.ps.below hW) h.inv hh (by omega) h.pk);have HG:=z6 (fun(W:World) (hW:Below w.heap.size w W)=>G1 B st name n W M O (h.ps.below hW) h.inv hh (by omega) h.pk);have b3:(rS (mA n::name).toArray).size=name.length+1:=by simp[aF]
 have a4:∀hz:0<(rS (mA n::name).toArray).size,((rS (mA n::name).toArray)[0]'hz).toNat=n:=fun _=>a2
 clear a2 hn hx;go_enter Tryz.func112,Tryz.ntmps112;go_wp2;generalize(rS (mA n::name).toArray)=bb at*;have a7:0<bb.size:=by omega
 have e0:=a4 a7;have b1:(1:Int)≤(name.length:Int)+1:=by omega
 clear a4;go_region_with (fail)
 clear e0;have HB:=z6 ((j0g w.heap.size w).drew);generalize w.drew=W0 at*;rcases a5 with⟨hf,g,hg⟩|⟨hf,hg,a3⟩
 ·by_cases a0:n=0
  ·subst a0
   have:True:=trivial
   ·skip
    go_wp2_with fail
    refine(HN.out _).mono ?_;rintro e W1 ⟨rfl,hw⟩;replace hw:=hw.symm;subst hw;go_wp2_with fail
    refine(HF.out W0 HB.out).mono ?_;rintro e W1 ⟨rfl,hw⟩;replace hw:=hw.symm;subst hw;rw[hg];go_wp2_with fail
    refine(HP.out W0 HB.out).mono ?_;rintro e W1 ⟨rfl,hs⟩;rw[jz]at hs;have HS:=z6 (zv.after HB.out hs);clear hs;go_wp2;go_ret;exact⟨rfl,HS.out⟩
  ·have a6:((n:Int) !=0)=true:=by rw[bne_iff_ne];omega
   have a1:((n:Int)==0)=false:=by rw[beq_eq_false_iff_ne];omega
   ·skip
    go_wp2_with fail
    refine(HN.out _).mono ?_;rintro e W1 ⟨rfl,hw⟩;replace hw:=hw.symm;subst hw;go_wp2_with fail
    refine(HC.out W0 HB.out (by omega)).mono ?_;rintro e W1 ⟨rfl,hw⟩;replace hw:=hw.symm;subst hw;go_wp2_with fail
    refine(HF.out W0 HB.out).mono ?_;rintro e W1 ⟨rfl,hw⟩;replace hw:=hw.symm;subst hw;rw[hg];go_wp2_with fail
    refine(HP.out W0 HB.out).mono ?_;rintro e W1 ⟨rfl,hs⟩;rw[jz]at hs;have HS:=z6 (zv.after HB.out hs);clear hs;go_wp2;go_ret;exact⟨rfl,HS.out⟩
 ·by_cases a0:n=0
  ·subst a0
   have:True:=trivial
   ·skip
    go_wp2_with fail
    refine(HN.out _).mono ?_;rintro e W1 ⟨rfl,hw⟩;replace hw:=hw.symm;subst hw;go_wp2_with fail
    refine(HF.out W0 HB.out).mono ?_;rintro e W1 ⟨rfl,hw⟩;replace hw:=hw.symm;subst hw;rw[hg];go_wp2_with fail
    refine(HG.out W0 HB.out).mono ?_;rintro e W1 ⟨rfl,hs⟩;rw[a3]at hs⊢;have HS:=z6 (zv.after HB.out hs);clear hs;go_wp2;go_ret;exact⟨rfl,HS.out⟩
  ·have a6:((n:Int) !=0)=true:=by rw[bne_iff_ne];omega
   have a1:((n:Int)==0)=false:=by rw[beq_eq_false_iff_ne];omega
   ·skip
    go_wp2_with fail
    refine(HN.out _).mono ?_;rintro e W1 ⟨rfl,hw⟩;replace hw:=hw.symm;subst hw;go_wp2_with fail
    refine(HC.out W0 HB.out (by omega)).mono ?_;rintro e W1 ⟨rfl,hw⟩;replace hw:=hw.symm;subst hw;go_wp2_with fail
    refine(HF.out W0 HB.out).mono ?_;rintro e W1 ⟨rfl,hw⟩;replace hw:=hw.symm;subst hw;rw[hg];go_wp2_with fail
    refine(HG.out W0 HB.out).mono ?_;rintro e W1 ⟨rfl,hs⟩;rw[a3]at hs⊢;have HS:=z6 (zv.after HB.out hs);clear hs;go_wp2;go_ret;exact⟨rfl,HS.out⟩
end
theorem Gm (s:ByteArray)(w:World)(hs:s.size≤281474976710656):
  Calls rJ 110 #[.string s] w fun e w' =>e= .returned (.string s)∧Below w.heap.size w w' :=by
 have H:=z6 (fun W=>Tryz.stringslite_Clone s W hs);go_enter Tryz.func110,Tryz.ntmps110;go_wp2_with fail
 refine(H.out _).mono ?_;rintro e W ⟨rfl,hb⟩;go_wp2;go_ret;exact⟨rfl,hb⟩
theorem FN (c:UInt8)(body:List UInt8):(rS (R.record c body).toArray).extract 3 (body.length+3)=⟨body.toArray⟩:=by
 have e:R.record c body=([c,mA (body.length/256),mA (body.length % 256)]++body)++ [mA ((1+R.sumB (R.recHead c body)) % 251)]:=rfl;rw[e];apply ByteArray.ext;simp[ByteArray.data_extract]
section
variable {w:World}{M O:Nat→Prop}{B:Nat}{st:R.St}
theorem cG (h:Fi w M O B st)(r:R.Rc)(hr:r.ok st):
  Calls rJ 72 #[.pointer (some ⟨B,0,none⟩),.string ⟨r.bytes.toArray⟩] w fun e w' =>e= .returned (.bool true)∧zv w w' M O B (r.run st):=by
 have a7:=R.Rc.body_len h.inv hr;have a6:=FN r.letter r.body;have a8:(rS r.bytes.toArray).size=r.body.length+4:=by simp[aF,R.Rc.bytes,R.record_len]
 have a1:∀hz:0<(rS r.bytes.toArray).size,((rS r.bytes.toArray)[0]'hz)=r.letter:=fun _=>rfl
 have a0:=z6 (fun W=>Gm ⟨r.body.toArray⟩ W (by simp[aF];omega));have HH:=z6 h;have hE:(rS r.bytes.toArray).extract 3 (r.body.length+3)=⟨r.body.toArray⟩:=a6;rcases hr with⟨hl,hc⟩|⟨hl,h1,h2,h3⟩|⟨hl,hf⟩
 ·have hb:r.body=R.bodyC r.cm:=by unfold R.Rc.body;rw[if_pos hl]
  have a4:r.run st=R.keepC st r.cm:=by unfold R.Rc.run;rw[if_pos hl]
  rw[a4];rw[hl]at a1;rw[hb]at hE a0 a8 a7;have HR:=z6 (fun(W:World) (hW:Below w.heap.size w W)=>J0 (HH.out.below hW) r.cm hc);clear h a4 hb hl a6;generalize(rS r.bytes.toArray)=bb at*;have a5:0<bb.size:=by omega
  have e0:(bb[0]'a5).toNat=67:=congrArg M1 (a1 a5);have b3:(3:Int)≤((R.bodyC r.cm).length:Int)+3:=by omega
  clear a1;generalize R.bodyC r.cm=bd at*;go_enter M2,M3;go_wp2_with fail
  refine(a0.out _).mono ?_;rintro e W1 ⟨rfl,a3⟩;have a2:=z6 a3;clear a3;go_wp2_with fail
  refine(HR.out W1 a2.out).mono ?_;rintro e W2 ⟨rfl,hs⟩;have HS:=z6 (zv.after a2.out hs);clear hs HR a0;go_wp2;go_ret;exact⟨rfl,HS.out⟩
 ·have hb:r.body=mA r.head::r.name:=by unfold R.Rc.body;rw[if_neg (by rw[hl];decide),if_pos hl]
  have a4:r.run st=R.headR st r.name r.head:=by unfold R.Rc.run;rw[if_neg (by rw[hl];decide),if_pos hl]
  rw[a4];rw[hl]at a1;rw[hb]at hE a0 a8 a7;have HR:=z6 (fun(W:World) (hW:Below w.heap.size w W)=>Uw (HH.out.below hW) r.name r.head h1 h2 h3);clear h a4 hb hl a6;generalize(rS r.bytes.toArray)=bb at*;have a5:0<bb.size:=by omega
  have e0:(bb[0]'a5).toNat=66:=congrArg M1 (a1 a5);have b3:(3:Int)≤((mA r.head::r.name).length:Int)+3:=by omega
  clear a1;generalize mA r.head::r.name=bd at*;go_enter M2,M3;go_wp2_with fail
  refine(a0.out _).mono ?_;rintro e W1 ⟨rfl,a3⟩;have a2:=z6 a3;clear a3;go_wp2_with fail
  refine(HR.out W1 a2.out).mono ?_;rintro e W2 ⟨rfl,hs⟩;have HS:=z6 (zv.after a2.out hs);clear hs HR a0;go_wp2;go_ret;exact⟨rfl,HS.out⟩
 ·have hb:r.body=r.name:=by unfold R.Rc.body;rw[if_neg (by rw[hl];decide),if_neg (by rw[hl];decide)]
  have a4:r.run st=(R.dropped st r.name).2:=by unfold R.Rc.run;rw[if_neg (by rw[hl];decide),if_neg (by rw[hl];decide)]
  rw[a4];rw[hl]at a1;rw[hb]at hE a0 a8 a7;have HR:=z6 (fun(W:World) (hW:Below w.heap.size w W)=>(Bu B st r.name W M O (HH.out.ps.below hW) HH.out.inv HH.out.pk).mono (R' :=fun e w' =>e= .returned (.int .i64 0)∧zv W w' M O B (R.dropped st r.name).2) fun e w' ⟨q1,q2⟩=>⟨by rw[q1,show(R.dropped st r.name).1=0 by unfold R.dropped;rw[if_neg (by unfold R.fndI;rw[if_pos hf];omega)]],q2⟩);clear h a4 hb hl a6;generalize(rS r.bytes.toArray)=bb at*;have a5:0<bb.size:=by omega
  have e0:(bb[0]'a5).toNat=68:=congrArg M1 (a1 a5);have b3:(3:Int)≤((r.name).length:Int)+3:=by omega
  clear a1;generalize r.name=bd at*;go_enter M2,M3;go_wp2_with fail
  refine(a0.out _).mono ?_;rintro e W1 ⟨rfl,a3⟩;have a2:=z6 a3;clear a3;go_wp2_with fail
  refine(HR.out W1 a2.out).mono ?_;rintro e W2 ⟨rfl,hs⟩;have HS:=z6 (zv.after a2.out hs);clear hs HR a0;go_wp2;go_ret;exact⟨rfl,HS.out⟩
theorem g_ (B:Nat)(w:World)(bb:ByteArray)(h4:4≤bb.size)(hs:bb.size≤1000000)(h1:(bb[0]'(by omega)).toNat≠67)(h2:(bb[0]'(by omega)).toNat≠66)(h3:(bb[0]'(by omega)).toNat≠68):
  Calls rJ 72 #[.pointer (some ⟨B,0,none⟩),.string bb] w fun e w' =>e= .returned (.bool false)∧Below w.heap.size w w' :=by
 have a0:=z6 (fun(s:ByteArray) (hs:s.size≤1000000) W=>Gm s W (by omega));have a4:0<bb.size:=by omega
 obtain⟨c0,a2⟩:∃c,(bb[0]'a4).toNat=c:=⟨_,rfl⟩
 rw[a2]at h1 h2 h3;have n1:((c0:Int)==67)=false:=by rw[beq_eq_false_iff_ne];omega
 have n2:((c0:Int)==66)=false:=by rw[beq_eq_false_iff_ne];omega
 have n3:((c0:Int)==68)=false:=by rw[beq_eq_false_iff_ne];omega
 obtain⟨m,hm⟩:∃m,bb.size=m+4:=⟨bb.size-4,by omega⟩
 have b3:(3:Int)≤(m:Int)+3:=by omega
 have a3:(bb.extract 3 (m+3)).size≤1000000:=by simp[ByteArray.size_extract];omega
 go_enter M2,M3;go_wp2_with fail
 refine(a0.out _ a3 _).mono ?_;rintro e W1 ⟨rfl,a1⟩;go_wp2;go_ret;exact⟨rfl,a1⟩
end
def Cb (w:World)(p:List UInt8)(e:Ending)(w' :World):Prop:=
 (if R.whole p=true then e= .returned (.tuple #[.string ⟨(p.take (R.recN p+4)).toArray⟩,.string ⟨(p.drop (R.recN p+4)).toArray⟩,.bool true])else e= .returned (.tuple #[.string ⟨#[]⟩,.string ⟨#[]⟩,.bool false]))∧Below w.heap.size w w'
theorem cD (p:List UInt8)(k:Nat)(hz:k<(rS p.toArray).size):((rS p.toArray)[k]'hz).toNat=(p.getD k 0).toNat:=by
 have hk:k<p.length:=by simpa[aF]using hz
 show(p.toArray[k]).toNat=_;rw[iJ,j0d hk];rfl
theorem cS (p:List UInt8)(n:Nat)(hn:n≤p.length):(rS p.toArray).extract 0 n=⟨(p.take n).toArray⟩:=by
 have:=J9 (p.take n) (p.drop n);rw[mH,nP,DI hn]at this;exact this
theorem cT (p:List UInt8)(n m:Nat)(hn:n≤p.length)(hm:m=p.length):(rS p.toArray).extract n m=⟨(p.drop n).toArray⟩:=by
 have:=QG (p.take n) (p.drop n) m (by rw[mH];exact hm);rw[mH,nP,DI hn]at this;exact this
theorem JE (p:List UInt8)(w:World)(hp:p.length≤4611686018427387904):Calls rJ 71 #[.string ⟨p.toArray⟩] w (Cb w p):=by
 have e1:(rS p.toArray).size=p.length:=by simp[aF]
 by_cases h3:p.length<3
 ·have hw:R.whole p=false:=by
   unfold R.whole;rw[decide_eq_false (by omega)];rfl
  have b3:(p.length:Int)<3:=by omega
  generalize(rS p.toArray)=pb at*;go_enter M4,M5;go_wp2;refine bodyPost_ret (v:= .tuple #[.string ⟨#[]⟩,.string ⟨#[]⟩,.bool false]) (by simp[results,M6,go_sem]) rfl ?_;unfold Cb;rw[hw];exact⟨rfl,j0g _ _⟩
 ·obtain⟨n,hn⟩:∃n,n=R.recN p:=⟨_,rfl⟩
  have l1:(p.getD 1 0).toNat<256:=(p.getD 1 0).toNat_lt;have l2:(p.getD 2 0).toNat<256:=(p.getD 2 0).toNat_lt;have a8:n=256*(p.getD 1 0).toNat+(p.getD 2 0).toNat:=by rw[hn];rfl
  obtain⟨a1,c6⟩:∃a,(p.getD 1 0).toNat=a:=⟨_,rfl⟩
  obtain⟨a2,c7⟩:∃a,(p.getD 2 0).toNat=a:=⟨_,rfl⟩
  rw[c6]at l1 a8;rw[c7]at l2 a8;have b3:¬(p.length:Int)<3:=by omega
  have e6:(1:Int)<(p.length:Int):=by omega
  have e7:(2:Int)<(p.length:Int):=by omega
  have HN:=z6 hn;have b9:=z6 a8;have e3:=z6 e1;have a5:∀m,m≤p.length→(rS p.toArray).extract 0 m=⟨(p.take m).toArray⟩:=fun m hm=>cS p m hm
  have a4:∀m,m≤p.length→(rS p.toArray).extract m p.length=⟨(p.drop m).toArray⟩:=fun m hm=>cT p m _ hm rfl
  have a6:=cD p;have d3:=z6 a5;have d6:=z6 a4;have b2:=z6 a6;clear hn a8 a5 a4 a6;generalize(rS p.toArray)=pb at*;have c8:1<pb.size:=by omega
  have c9:2<pb.size:=by omega
  have i1:=(b2.out 1 c8).trans c6;have i2:=(b2.out 2 c9).trans c7;clear c6 c7;go_enter M4,M5;go_wp2;go_quiet (fail)
  clear i1 i2;have he:(3+(a1:Int)*256+(a2:Int))=((n+3:Nat):Int):=by rw[b9.out];push_cast;omega
  rw[he];have HB:=z6 (below_drewN (j0g w.heap.size w) nq);have e9:n≤65535:=by rw[b9.out];omega
  clear he l1 l2 b9;generalize w.drewN nq=W0 at*;obtain⟨en,a0⟩:∃en,en=n+3:=⟨_,rfl⟩
  rw[←a0];by_cases e8:p.length≤en
  ·have hw:R.whole p=false:=by
    unfold R.whole;rw[←HN.out,decide_eq_false (p:=3+n<p.length) (by omega)];simp
   have b4:(p.length:Int)≤(en:Int):=by omega
   clear a0;go_wp2;go_quiet (fail)
   go_wp2;refine bodyPost_ret (v:= .tuple #[.string ⟨#[]⟩,.string ⟨#[]⟩,.bool false]) (by simp[results,M6,go_sem]) rfl ?_;unfold Cb;rw[hw];exact⟨rfl,below_drewN HB.out nq⟩
  ·have b4:¬(p.length:Int)≤(en:Int):=by omega
   have b5:(en:Int)<(p.length:Int):=by omega
   have b6:(0:Int)≤(en:Int):=by omega
   have b7:(en:Int)≤(p.length:Int):=by omega
   have e2:en<pb.size:=by omega
   have ie:=b2.out en e2;have d4:=d3.out en (by omega);obtain⟨x,hx⟩:∃x,(p.getD en 0).toNat=x:=⟨_,rfl⟩
   obtain⟨cs,a7⟩:∃cs,(1+R.sumB (p.take en)) % 251=cs:=⟨_,rfl⟩
   rw[hx]at ie;have f0:x<256:=by rw[←hx];exact(p.getD en 0).toNat_lt
   have a3:en≤65538∨True:= .inr trivial;have b1:=z6 (fun W=>GH (p.take en) W (by rw[nP];omega));rw[a7]at b1;have a9:R.whole p=decide (x=cs):=by
    unfold R.whole;rw[←HN.out,decide_eq_true (p:=3+n<p.length) (by omega),decide_eq_true (p:=3≤p.length) (by omega),Nat.add_comm 3 n,←a0,hx,a7];rfl
   by_cases d5:x=cs
   ·subst d5
    rw[decide_eq_true rfl]at a9;have d8:=d3.out (en+1) (by omega);have d9:=d6.out (en+1) (by omega);have b8:(en:Int)+1≤(p.length:Int):=by omega
    have d7:Hid (R.recN p+4=en+1):=by show _=_;rw[←HN.out];omega
    clear hx a7 a0 a3 c8 c9;go_wp2;go_quiet ((go_at_call 109;exact M7 (b1.out _)))
    clear ie d4;go_wp2;go_quiet (fail)
    go_wp2;refine bodyPost_ret (v:= .tuple #[.string ⟨(p.take (en+1)).toArray⟩,.string ⟨(p.drop (en+1)).toArray⟩,.bool true]) (by simp[results,M6,go_sem]) rfl ?_;unfold Cb;rw[a9,d7.out];exact⟨rfl,below_drewN (below_drewN HB.out _) _⟩
   ·rw[decide_eq_false d5]at a9
    have c1:((x:Int) !=(cs:Int))=true:=by rw[bne_iff_ne];omega
    have c2:((x:Int)==(cs:Int))=false:=by rw[beq_eq_false_iff_ne];omega
    clear hx a7 a0 a3 c8 c9;go_wp2;go_quiet ((go_at_call 109;exact M7 (b1.out _)))
    clear ie d4;go_wp2;refine bodyPost_ret (v:= .tuple #[.string ⟨#[]⟩,.string ⟨#[]⟩,.bool false]) (by simp[results,M6,go_sem]) rfl ?_;unfold Cb;rw[a9];exact⟨rfl,below_drewN HB.out _⟩
theorem gA {st:R.St}{r:R.Rc}(hr:r.ok st):(r.run st).packed=st.packed++r.bytes:=by
 unfold R.Rc.run R.Rc.bytes R.Rc.body;rcases hr with⟨e,hc⟩|⟨e,h1,h2,h3⟩|⟨e,hf⟩
 ·rw[if_pos e,if_pos e,e];rfl
 ·rw[if_neg (by rw[e];decide),if_pos e,if_neg (by rw[e];decide),if_pos e,e]
  unfold R.headR;split<;>rfl
 ·rw[if_neg (by rw[e];decide),if_neg (by rw[e];decide),if_neg (by rw[e];decide),if_neg (by rw[e];decide),e]
  unfold R.dropped;rw[if_neg (by unfold R.fndI;rw[if_pos hf];omega)]
theorem Kb:∀{rs:List R.Rc} {st:R.St},R.OkRs st rs→(R.runs st rs).packed=st.packed++R.bytesRs rs
 |[],st,_=>by simp[R.runs,R.bytesRs]
 |r::rs,st,h=>by
  have h1:=Kb (rs:=rs) (st:=r.run st) h.2;show(R.runs (r.run st) rs).packed=_;rw[h1,gA h.1];simp[R.bytesRs]
theorem Gv:∀{rs:List R.Rc} {st:R.St} (k:Nat) (hk:k<rs.length),R.OkRs st rs→(rs[k]).ok (R.runs st (rs.take k))
 |r::rs,st,0,_,h=>h.1
 |r::rs,st,k+1,hk,h=>Gv (rs:=rs) (st:=r.run st) k (by simpa using hk) h.2
theorem ff (st:R.St)(rs:List R.Rc)(k:Nat)(hk:k<rs.length):R.runs st (rs.take (k+1))=(rs[k]).run (R.runs st (rs.take k)):=by
 unfold R.runs;rw[mD hk,List.foldl_append];rfl
def bM (w:World)(M:Nat→Prop)(st:R.St)(e:Ending)(w' :World):Prop:=∃(B:Nat) (O:Nat→Prop),e= .returned (.pointer (some ⟨B,0,none⟩))∧PS w' (fun b=>M b∨O b) O B st∧Below w.heap.size w w' ∧∀b,O b→w.heap.size≤b
def Opn (w:World)(M:Nat→Prop)(B:Nat)(st:R.St)(W:World):Prop:=∃O:Nat→Prop,PS W (fun b=>M b∨O b) O B st∧Below w.heap.size w W∧∀b,O b→w.heap.size≤b
theorem Opn.below {w:World}{M:Nat→Prop}{B:Nat}{st:R.St}{W X:World}(h:Opn w M B st W)(hb:Below W.heap.size W X):Opn w M B st X:=by
 obtain⟨O,h1,h2,h3⟩:=h;exact⟨O,h1.below hb,h2.trans (hb.mono h2.size),h3⟩
theorem Opn.rep {w:World}{M:Nat→Prop}{B:Nat}{st:R.St}{W:World}(h:Opn w M B st W)(hi:Inv st)(hM:∀b,M b→b<w.heap.size)(hG:Zy w)(hp:st.packed.length≤1000000000000)(r:R.Rc)(hr:r.ok st):
  Calls rJ 72 #[.pointer (some ⟨B,0,none⟩),.string ⟨r.bytes.toArray⟩] W fun e w' =>e= .returned (.bool true)∧Opn w M B (r.run st) w' :=by
 obtain⟨O,h1,h2,h3⟩:=h;have a0:∀b,O b→b<W.heap.size:=by obtain⟨bv,cv,LB,LCm,hx⟩:=h1;exact hx.lt
 have h6:=hG.size;refine(cG (M:=fun b=>M b∨O b) (O:=O) ⟨h1,hi,fun b hb=> ?_,hG.below h2,fun b hb=>j0f h6 (h3 b hb),hp⟩ r hr).mono fun e w' ⟨e1,O',p1,p2,p3⟩=>⟨e1,O',?_,?_,?_⟩
 ·rcases hb with hb|hb
  ·exact j0b (hM b hb) h2.size
  ·exact a0 b hb
 ·exact p1.smaller (fun b hb=>hb.elim (fun hb=> .inl (.inl hb)) .inr) (fun b hb=> .inr hb)
 ·exact⟨p2.os.trans h2.os,p2.tape.trans h2.tape,p2.output.trans h2.output,j0f h2.size p2.size,fun k hk=>by
   rw[p2.block k (j0b hk h2.size) (fun e=>by have:=h3 k e;omega)];exact h2.block k hk⟩
 ·intro b hb
  rcases p3 b hb with hb|hb
  ·exact h3 b hb
  ·exact j0f h2.size hb
theorem Bn {rs:List R.Rc}(d3:R.OkRs R.bg0 rs)(q:List UInt8)(hq:dm q)(w:World)(M:Nat→Prop)(hM:∀b,M b→b<w.heap.size)(hG:Zy w)(hl:(R.bytesRs rs).length≤1000000000)(d9:q.length≤2305843009213693952):
  Calls rJ 40 #[.string ⟨(R.bytesRs rs++q).toArray⟩] w (bM w M (R.runs R.bg0 rs)):=by
 have HQ:=z6 hq;have b9:=z6 d3;have HM:=z6 hM;have HG:=z6 hG;clear hq d3 hM hG;go_enter Tryz.func40,Tryz.ntmps40;go_wp2_with fail
 refine(GI w).mono ?_;rintro e W1 ⟨rfl,rfl⟩;have HO:Hid (Opn w M w.heap.size (R.runs R.bg0 (rs.take 0)) (w.alloc (.cells #[.slice none 0 0,.slice none 0 0,.slice none 0 0] 102))):=by
  refine⟨fun b=>b=w.heap.size,?_,(j0g _ w).alloc (j0a _) _,fun b hb=>by omega⟩;exact bL (M:=fun b=>M b∨b=w.heap.size) (heap_alloc_new w (.cells #[.slice none 0 0,.slice none 0 0,.slice none 0 0] 102)) (.inr rfl)
 generalize w.alloc (.cells #[.slice none 0 0,.slice none 0 0,.slice none 0 0] 102)=V0 at*;generalize hB:w.heap.size=B at*;go_wp2;go_loopw [0] (fun pv wr=>∃(k:Nat) (tx:List UInt8),k≤rs.length∧pv= .string ⟨tx.toArray⟩∧tx=R.bytesRs (rs.drop k)++q∧Opn w M B (R.runs R.bg0 (rs.take k)) wr) (fun pv _=>Fw pv)
 case atStart=>exact⟨0,_,sQ _,rfl,rfl,HO.out⟩
 case round=>
  obtain⟨k,tx,hk,rfl,a7,a8⟩:=hrel;have a5:=z6 a8;clear a8 HO;have hM:∀b,M b→b<w.heap.size:=by rw[hB];exact HM.out
  have b5:R.OkRs R.bg0 (rs.take k):=b9.out.take k;have a6:=R.OkRs.inv R.inv0 b5;have a9:=Kb b5;have d5:(R.bytesRs (rs.take k)).length≤(R.bytesRs rs).length:=by
   conv=>rhs;rw[←mH k rs]
   unfold R.bytesRs;rw[M8,mB];omega
  have b3:(R.bytesRs (rs.drop k)).length≤(R.bytesRs rs).length:=by
   conv=>rhs;rw[←mH k rs]
   unfold R.bytesRs;rw[M8,mB];omega
  have c8:(R.runs R.bg0 (rs.take k)).packed.length≤1000000000000:=by
   rw[a9];show(([]:List UInt8)++R.bytesRs (rs.take k)).length≤_;rw[mJ];omega
  have d8:tx.length≤4611686018427387904:=by
   rw[a7,mB];omega
  have HF:=z6 (fun W=>JE tx W d8);by_cases b4:k<rs.length
  ·have b6:=Gv k b4 b9.out
   have hb:=R.Rc.body_len a6 b6;have b1:=ff R.bg0 rs k b4;obtain⟨rest,a0⟩:∃rest,rest=R.bytesRs (rs.drop (k+1))++q:=⟨_,rfl⟩
   have a1:tx=rs[k].bytes++rest:=by
    rw[a7,a0,List.drop_eq_getElem_cons b4];unfold R.bytesRs;rw[List.flatMap_cons,rD]
   have b8:=z6 (fun(W:World) (h:Opn w M B (R.runs R.bg0 (rs.take k)) W)=>h.rep a6 hM HG.out c8 rs[k] b6);have c6:=z6 b1;have d4:=z6 a0;generalize rs[k]=r at*;obtain⟨w1,w2⟩:=R.whole_rec r.letter r.body rest (by omega);have c9:r.bytes.length=r.body.length+4:=R.record_len _ _;have a2:Hid (∀W,Calls rJ 71 #[.string ⟨tx.toArray⟩] W fun e w' =>e= .returned (.tuple #[.string ⟨r.bytes.toArray⟩,.string ⟨rest.toArray⟩,.bool true])∧Below W.heap.size W w'):=fun W=>by
    refine(HF.out W).mono fun e w' ⟨h1,h2⟩=>⟨?_,h2⟩
    have e1:R.recN tx=r.body.length:=by rw[a1];exact w1
    have e2:R.whole tx=true:=by rw[a1];exact w2
    rw[if_pos e2,e1,a1,←c9,List.take_left,List.drop_left]at h1;exact h1
   have d7:tx.length=r.bytes.length+rest.length:=by rw[a1,mB]
   have e6:0<r.bytes.length:=by omega
   clear a7 a1 b1 a0 w1 w2 b6 hb c9 HF;go_wp2_with fail
   refine(a2.out _).mono ?_;rintro e W1 ⟨rfl,a3⟩;have a4:=z6 (b8.out W1 (a5.out.below a3));clear a3 a2 a5 b8;go_wp2_with fail
   refine a4.out.mono ?_;rintro e W2 ⟨rfl,a8⟩;rw[←c6.out]at a8;have b2:=z6 a8;clear a8 a4 c6;go_wp2;go_roundw
   case rel=>exact⟨k+1,rest,by omega,rfl,d4.out,b2.out⟩
   case measure=>simp[Fw,aF];omega
  ·have d6:k=rs.length:=by omega
   subst d6;rw[List.drop_length]at a7;replace a7:tx=q:=a7;subst a7;rw[wN]at a5;clear b5 a6 a9 d5 b3 c8;rcases HQ.out with hw|⟨hw,n1,n2,n3⟩
   ·have a2:Hid (∀W,Calls rJ 71 #[.string ⟨tx.toArray⟩] W fun e w' =>e= .returned (.tuple #[.string ⟨#[]⟩,.string ⟨#[]⟩,.bool false])∧Below W.heap.size W w'):=fun W=>by
     refine(HF.out W).mono fun e w' ⟨h1,h2⟩=>⟨?_,h2⟩
     rw[hw,if_neg (by simp)]at h1;exact h1
    clear HF;go_wp2_with fail
    refine(a2.out _).mono ?_;rintro e W1 ⟨rfl,a3⟩;have a4:=z6 (a5.out.below a3);clear a3 a2 a5;go_wp2;go_ret;obtain⟨O,g1,g2,g3⟩:=a4.out;exact⟨B,O,rfl,g1,g2,g3⟩
   ·have h3:3≤tx.length∧3+R.recN tx<tx.length:=by
     unfold R.whole at hw;simp only[Bool.and_eq_true,decide_eq_true_eq]at hw;exact⟨hw.1,hw.2.1⟩
    have e3:R.recN tx≤65535:=by
     unfold R.recN;have:=(tx.getD 1 0).toNat_lt;have:=(tx.getD 2 0).toNat_lt;omega
    have a2:Hid (∀W,Calls rJ 71 #[.string ⟨tx.toArray⟩] W fun e w' =>e= .returned (.tuple #[.string ⟨(tx.take (R.recN tx+4)).toArray⟩,.string ⟨(tx.drop (R.recN tx+4)).toArray⟩,.bool true])∧Below W.heap.size W w'):=fun W=>by
     refine(HF.out W).mono fun e w' ⟨h1,h2⟩=>⟨?_,h2⟩
     rw[hw,if_pos rfl]at h1;exact h1
    have hs:(rS (tx.take (R.recN tx+4)).toArray).size=R.recN tx+4:=by simp[aF];omega
    have hg:∀hz:0<(rS (tx.take (R.recN tx+4)).toArray).size,((rS (tx.take (R.recN tx+4)).toArray)[0]'hz).toNat=(tx.getD 0 0).toNat:=fun hz=>by
     rw[cD];rw[iJ,iJ,List.getElem?_take,if_pos (by omega)]
    have b7:=z6 (fun W=>g_ B W ⟨(tx.take (R.recN tx+4)).toArray⟩ (by omega) (by omega) (by rw[hg];exact n1) (by rw[hg];exact n2) (by rw[hg];exact n3));clear HF hs hg hw;generalize(rS (tx.take (R.recN tx+4)).toArray)=fb at*;generalize tx.drop (R.recN tx+4)=db at*;go_wp2_with fail
    refine(a2.out _).mono ?_;rintro e W1 ⟨rfl,a3⟩;have a4:=z6 (a5.out.below a3);clear a3 a2 a5;go_wp2_with fail
    refine(b7.out _).mono ?_;rintro e W2 ⟨rfl,c7⟩;have b2:=z6 (a4.out.below c7);clear c7 b7 a4;go_wp2;go_ret;obtain⟨O,g1,g2,g3⟩:=b2.out;exact⟨B,O,rfl,g1,g2,g3⟩
