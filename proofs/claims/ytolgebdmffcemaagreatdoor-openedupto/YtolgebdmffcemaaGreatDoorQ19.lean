import Derived.Test.YtolgebdmffcemaaGreatDoorQ18
set_option linter.all false
set_option maxHeartbeats 20000000
set_option maxRecDepth 1000000
open Go renaming Value→eB,World→eX,Calls→wH
open List renaming take_of_length_le→nR,length_filter_le→pY,length_append→nL
open Go.Proofs.Tryz renaming prog→sU,func58→LO,ntmps58→LP,func74→LQ,ntmps74→LR,func76→LU,ntmps76→LV,func102→LX,ntmps102→LY,results102→LZ,func61→M1,ntmps61→M2,func63→M4,ntmps63→M5,func55→M6,ntmps55→M7,func28→M8,ntmps28→M9
open Go.Lib renaming holds_of_ownsRow→LL,ownsRow_putRow→LM
open Array renaming getElem?_modify→lO
open Go.RowKit renaming Below→tH
open Bool renaming false_eq_true→eU,decide_and→LS
open Go.World renaming cell?_of_block→sD,frozen?_of_block→I4
open Nat renaming le_succ→L3,le_succ_of_le→M3
namespace Go.Proofs.YtolgebdmffcemaaGreatDoor
open Go.RowKit
def Zw (n:Nat):eB:= .int .i64 (n:Int)
structure o8 (W:eX)(B b tc:Nat)(l:List Nat):Prop where
 c0:W.cell? ⟨B,0,none⟩=some (.slice (some ⟨b,0,none⟩) l.length tc)
 cs:∀j (h:j<l.length),W.cell? ⟨b,j,none⟩=some (Zw l[j])
theorem o8.move {W W' :eX}{B b tc:Nat}{l:List Nat}(h:o8 W B b tc l)(h1:∀p:Addr,p.block=B→W'.cell? p=W.cell? p)(h2:∀p:Addr,p.block=b→W'.cell? p=W.cell? p):o8 W' B b tc l:=
 ⟨(h1 _ rfl).trans h.c0,fun j hj=>(h2 ⟨b,j,none⟩ rfl).trans (h.cs j hj)⟩
theorem kj (l:List Nat)(m:Nat):((l.map fun n:Nat=>(n:Int)).take l.length).contains (m:Int)=decide (m∈l):=by
 rw[nR (by simp),Bool.eq_iff_iff,List.contains_iff_mem,decide_eq_true_eq,List.mem_map];constructor
 ·rintro⟨n,hn,e⟩
  have:n=m:=by exact_mod_cast e
  rw[←this];exact hn
 ·exact fun h=>⟨m,h,rfl⟩
theorem Kd {W:eX}{B b tc:Nat}{l:List Nat}(h:o8 W B b tc l)(hl:l.length≤100)(m:Nat):
  wH sU 84 #[.slice (some ⟨b,0,none⟩) l.length tc,.int .i64 (m:Int)] W fun e w' =>e= .returned (.bool (decide (m∈l)))∧w' =W:=by
 have:=Tryz.slices_Contains_int b 0 l.length tc (l.map fun n:Nat=>(n:Int)) m W (by simp) (by omega) (fun j hj=>by
  have a0 :j<l.length:=by simpa using hj
  rw[Nat.zero_add,h.cs j a0];simp[Zw,List.getD_eq_getElem?_getD,a0])
 rw[kj]at this;exact this
theorem Fq {W:eX}{B b tc:Nat}{l:List Nat}(h:o8 W B b tc l)(hl:l.length≤100)(m:Nat):
  wH sU 234 #[.int .i64 (m:Int),.pointer (some ⟨B,0,none⟩)] W fun e w' =>e= .returned (.bool (!decide (m∈l)))∧w' =W:=by
 have HC:=z9 (Kd h hl m);have c0:=h.c0;clear h;go_enter Tryz.func234,Tryz.ntmps234;go_wp2_with fail
 refine HC.out.mono ?_;rintro e w1 ⟨rfl,rfl⟩;go_wp2;go_ret;exact⟨rfl,rfl⟩
theorem Fp {W:eX}{B b tc:Nat}{l:List Nat}(h:o8 W B b tc l)(hl:l.length≤100)(m:Nat):
  wH sU 204 #[.int .i64 (m:Int),.pointer (some ⟨B,0,none⟩)] W fun e w' =>e= .returned (.bool (decide (m∈l)))∧w' =W:=by
 have HC:=z9 (Kd h hl m);have c0:=h.c0;clear h;go_enter Tryz.func204,Tryz.ntmps204;go_wp2_with fail
 refine HC.out.mono ?_;rintro e w1 ⟨rfl,rfl⟩;go_wp2;go_ret;exact⟨rfl,rfl⟩
theorem cf (g:Nat)(eg:∀args w,(callFunc g args).run sU w= .ok (.enter g args) w)(p:Nat→Bool){B b tc:Nat}{l2:List Nat}
  (a1:∀W,o8 W B b tc l2→∀m:Nat,wH sU g #[.int .i64 (m:Int),.pointer (some ⟨B,0,none⟩)] W fun e w' =>e= .returned (.bool (p m))∧w' =W)
  {w:eX}{base:Nat}{v:eB}{l:List Nat}(ho:w.ownsRow base 3 1 v l.length (l.map Zw))(a0:v≠ .slice none 0 0)(hT:o8 w B b tc l2)(hB:B<w.heap.size)(hb:b<w.heap.size)(a4:v.ownBlock≠some B)(a5:v.ownBlock≠some b)(hl:l.length≤100):
  wH sU 203 #[v,.func (.func g) #[] #[.pointer (some ⟨B,0,none⟩)]] w fun e w' =>∃gb vc,e= .returned (.slice (some ⟨gb,0,none⟩) (l.filter fun m=> !p m).length vc)∧v.ownBlock=some gb∧w'.ownsRow base 3 1 (.slice (some ⟨gb,0,none⟩) (l.filter fun m=> !p m).length vc) (l.filter fun m=> !p m).length ((l.filter fun m=> !p m).map Zw)∧zf (fun b=>v.ownBlock=some b) w w' :=by
 obtain⟨gb,cap,rfl,hg,a6,hn,hm,_,hH⟩:=LL ho a0;have h1:gb≠B:=fun e=>a4 (by rw[e];rfl)
 have h2:gb≠b:=fun e=>a5 (by rw[e];rfl)
 have hO:OneCell Zw:=fun _=>rfl
 have a2:PredAt sU g #[.pointer (some ⟨B,0,none⟩)] Zw p w:=fun W x hW=>
  (a1 W (hT.move (fun q hq=>hW.cell (by rw[hq];exact hB)) (fun q hq=>hW.cell (by rw[hq];exact hb))) x).mono fun e w' ⟨e1,e2⟩=>⟨e1,0,e2⟩
 have a3:PredOver sU g #[.pointer (some ⟨B,0,none⟩)] Zw p gb 0 l.toArray.size w:=fun n os dk x hd=>by
  refine(a1 _ (hT.move (fun q hq=> ?_) (fun q hq=> ?_)) x).mono fun e w' ⟨e1,e2⟩=>⟨e1,0,e2⟩
  ·show(Sort.grow (Sort.putRow Zw (Sort.ahead w n) gb 0 dk) os).cell? q=w.cell? q
   rw[Sort.cell?_grow _ _ _ (by simp[hq,hB]),Sort.cell?_putRow_other _ _ _ _ _ _ (.inl (by rw[hq];exact fun e=>h1 e.symm))];rfl
  ·show(Sort.grow (Sort.putRow Zw (Sort.ahead w n) gb 0 dk) os).cell? q=w.cell? q
   rw[Sort.cell?_grow _ _ _ (by simp[hq,hb]),Sort.cell?_putRow_other _ _ _ _ _ _ (.inl (by rw[hq];exact fun e=>h2 e.symm))];rfl
 have:=Tryz.slices_DeleteFunc Zw hO p g #[.pointer (some ⟨B,0,none⟩)] eg 0 (fun _=>by kernel_rfl) gb 0 cap l.toArray w a2 a3 hH (by simp;omega) (by simpa using hn);simp only[List.size_toArray]at this;refine this.mono ?_;rintro e w' ⟨rfl,q,rfl⟩;have hf:(l.filter fun m=> !p m).length≤l.length:=pY _ _;have h3:=LM (q:=q) (k:=(l.filter fun m=> !p m).length) (ys:=(l.filter fun m=> !p m)++List.replicate (l.length-(l.filter fun m=> !p m).length) 0) ho (by simp;omega) hf;rw[List.take_left' rfl]at h3;refine⟨_,cap,rfl,rfl,h3,rfl,rfl,rfl,by simp,fun k hk a0=> ?_⟩;have:gb≠k:=fun e=>a0 (by rw[e];rfl)
 simp[Sort.putRow,Sort.mapBlock,Sort.ahead,lO,this]
theorem Oc (l:List Nat):l.map Zw=(l.map fun n:Nat=>(n:Int)).map (Value.int .i64):=by rw[List.map_map];rfl
theorem BB {base:Nat}{w:eX}{v:eB}{l:List Nat}(hl:l.length≤100)(ho:w.ownsRow base 3 1 v l.length (l.map Zw)):
  wH sU 205 #[v] w fun e w' =>e= .returned (.tuple #[])∧w'.ownsRow base 3 1 v l.length (l.reverse.map Zw)∧zf (fun b=>v.ownBlock=some b) w w' :=by
 by_cases hv:v= .slice none 0 0
 ·subst hv
  have h0:l=[]:=by
   rcases ho.2 with⟨_,h0⟩|⟨g,cap,a1,e,_⟩
   ·exact List.length_eq_zero_iff.1 h0
   ·cases e
  subst h0;exact(Tryz.slices_Reverse_int_empty none 0 w).mono fun e w' ⟨h1,h2⟩=>⟨h1,by rw[h2];exact ho,by rw[h2];exact zf.refl _ _⟩
 ·rw[Oc]at ho
  obtain⟨gb,cap,rfl,hg,a2,hn,hm,_,hH⟩:=LL ho hv;have:=Tryz.slices_Reverse_int gb 0 cap (l.map fun n:Nat=>(n:Int)) w hH (by simp;omega);rw[List.length_map]at this;refine this.mono ?_;rintro e w' ⟨rfl,q,rfl⟩;have h3:=LM (q:=q) (k:=l.length) (ys:=(l.map fun n:Nat=>(n:Int)).reverse) ho (by simp) (j0a _);rw[nR (by simp)]at h3;have h4:(l.map fun n:Nat=>(n:Int)).reverse.map (Value.int .i64)=l.reverse.map Zw:=by rw[Oc];simp only[List.map_reverse]
  rw[h4]at h3;refine⟨rfl,h3,rfl,rfl,rfl,by simp,fun k hk a0=> ?_⟩;have:gb≠k:=fun e=>a0 (by rw[e];rfl)
  simp[Sort.putRow,Sort.mapBlock,Sort.ahead,lO,this]
def Zd (st:R.St)(name:List UInt8)(c:R.Cm):(Int×Int)×R.St:=if 60≤st.cms.length then((0,4),st)else((((st.cms.length+1:Nat):Int),0),R.down st name c)
theorem uC {w:eX}{M O:Nat→Prop}{B:Nat}{st:R.St}{bv cv:eB}{LB:List BrP}{LCm:List (R.Cm×eB×eB)}(hP:PSx w M O B st bv cv LB LCm)(hi:Inv st)(name:List UInt8)(hf:R.fnd st.brs name<st.brs.length)(hl:R.fnd st.brs name<LB.length)(c:R.Cm)(pa:Option Addr)(pc:Nat)(ta:Option Addr)(tn tc:Nat)(c8:PT w M (.slice ta tn tc) c.tree)(c7:Rd w M (.slice pa c.parents.length pc) c.parents.length (Ym c.parents))(hM:∀b,M b→b<w.heap.size)(hT:OkT c.tree)(d6:∀p∈c.parents,1≤p∧p≤st.cms.length)(h2:c.parents.length≤2)(g0:st.packed.length≤100000000000)(hG:Zp w)(h6:∀b,O b→6≤b):
  wH sU 58 #[.pointer (some ⟨B,0,none⟩),.pointer (some ⟨(LB[R.fnd st.brs name]'hl).2.1,0,none⟩),.agg #[.slice pa c.parents.length pc,.slice ta tn tc]] w fun e w' =>e= .returned (.tuple #[.int .i64 (Zd st name c).1.1,.int .i64 (Zd st name c).1.2])∧zx w w' M O B (Zd st name c).2:=by
 obtain⟨ca,cc,e0,e3,e6⟩:=PS.cms1 ⟨_,_,_,_,hP⟩;have f7:=hP.lt B hP.own;have b4:=hP.at_ _ (j0c hl);have a7:=hP.blk _ (j0c hl);have d5:=hP.lt _ a7.1;have b7:(LB[R.fnd st.brs name]'hl).1.name=name:=by
  have:(LB[R.fnd st.brs name]'hl).1=(st.brs[R.fnd st.brs name]'hf):=by simp only[←hP.brs,List.getElem_map]
  rw[this];exact R.fnd_name _ _ hf
 have k0:=b4.c0;rw[b7]at k0;have f9:name.length≤8:=by
  have:=ZN _ (hi.names _ (j0c hf));rw[R.fnd_name st.brs name hf]at this;exact this
 unfold maxLen at e6;have b6:=hi.few;have f3:=hT.len;have d3:=hP.lt;obtain⟨n0,a4⟩:∃n0,n0=st.cms.length:=⟨_,rfl⟩
 rw[←a4]at e0 e3 b6;have f5:=z4 a4;by_cases b2:60≤st.cms.length
 ·have HS:Hid (Zd st name c=((0,4),st)):=by show _=_;rw[Zd,if_pos b2]
  have d9:Hid (zx w (w.alloc (Obj.cells #[.slice pa c.parents.length pc,.slice ta tn tc] 114)) M O B st):=zx.same ⟨_,_,_,_,hP⟩ ((j0g _ _).alloc (j0a _) _);have b3 :(60:Int)≤(n0:Int):=by omega
  generalize(LB[R.fnd st.brs name]'hl).2.1=bb at*;clear hP b4 hi c8 c7 hG hT a4;go_enter LO,LP;go_wp2;go_ret2;rw[HS.out];exact⟨rfl,d9.out⟩
 ·have HS:Hid (Zd st name c=((((n0+1:Nat):Int),0),R.down st name c)):=by show _=_;rw[Zd,if_neg b2,a4]
  have b3 :(n0:Int)<60:=by omega
  have HK:Hid (∀W,tH w.heap.size w W→wH sU 97 #[.pointer (some ⟨B,0,none⟩),.agg #[.slice pa c.parents.length pc,.slice ta tn tc]] W fun e w' =>e= .returned (.int .i64 ((n0:Int)+1))∧∃a2 a0,YO W w' M O B (R.keepC st c) bv a2 LB a0):=fun W hW=>by
   have:=bH (hP.kept (Z:=fun _=>False) (zf.of_below hW) (fun _ e=>e.elim) (fun b e=> .inl e) hP.sub) c pa pc ta tn tc (c8.below hW) (c7.below hW) (fun b e=>j0b (hM b e) hW.size) hT h2 (by omega) (by omega) (hG.below hW) h6;rw[←a4]at this;exact this
  have a8:=QE hi c (by omega) hT d6 h2;have a9:(R.keepC st c).packed.length≤1000000000000:=by
   have:=Fr c;simp only[R.keepC,R.record,R.recHead,nL,List.length_cons,List.length_nil];omega
  obtain⟨bb,b1⟩:∃bb,bb=(LB[R.fnd st.brs name]'hl).2.1:=⟨_,rfl⟩
  rw[←b1]at k0 a7 d5⊢;have e1:Hid (∀W w9 a2 a0,YO W w9 M O B (R.keepC st c) bv a2 LB a0 →tH w.heap.size w W→w.heap.size<W.heap.size→wH sU 48 #[.pointer (some ⟨B,0,none⟩),.string ⟨name.toArray⟩,.int .i64 ((n0:Int)+1)] w9 fun e w' =>e= .returned (.tuple #[])∧Hid (zx w w' M O B (R.down st name c))∧w'.cell? ⟨bb,1,none⟩=some (.int .i64 ((n0:Int)+1))∧w'.cell? ⟨bb,0,none⟩=some (.string ⟨name.toArray⟩)∧(∀o,w'.cell? ⟨w.heap.size,o,none⟩=w9.cell? ⟨w.heap.size,o,none⟩)):=fun W w9 a2 a0 a5 hW d4=>by
   obtain⟨O1,c6,a3,b8⟩:=a5;have g1:=a3.size;have:=Ov B (R.keepC st c) name (n0+1) w9 _ O1 c6 hf bb (fun h=>b1.symm) a8 (by rw[a4];simp[R.keepC]) (by omega) a9;refine this.mono ?_;rintro e w' ⟨rfl,a1,h1,h0⟩;have f0:zf O w w9:=⟨a3.os.trans hW.os,a3.tape.trans hW.tape,a3.output.trans hW.output,j0f hW.size a3.size,fun k hk hn=>by rw[a3.block k (j0b hk hW.size) hn];exact hW.block k hk⟩
   have b9 :∀b,O1 b→O b∨w.heap.size≤b:=fun b e=>by
    rcases b8 b e with e|e
    ·exact .inl e
    ·exact .inr (j0f hW.size e)
   refine⟨rfl,?_,h1,h0,fun o=> ?_⟩
   ·have:=zx.trans f0 b9 a1
    rw[a4]at this;exact this
   ·obtain⟨O2,_,e9,_⟩:=a1
    refine e9.cell (p:=⟨w.heap.size,o,none⟩) (show w.heap.size<_ by omega) (fun e=> ?_);rcases b8 _ e with e|e
    ·have f6 :w.heap.size<w.heap.size:=d3 _ e
     omega
    ·have e' :W.heap.size≤w.heap.size:=e
     omega
  have d8:Hid (∀W w9 a2 a0,YO W w9 M O B (R.keepC st c) bv a2 LB a0 →w.heap.size<W.heap.size→w9.cell? ⟨bb,0,none⟩=some (.string ⟨name.toArray⟩)∧∀o,w9.cell? ⟨w.heap.size,o,none⟩=W.cell? ⟨w.heap.size,o,none⟩):=fun W w9 a2 a0 a5 d4=>by
   obtain⟨O1,c6,a3,b8⟩:=a5;refine⟨?_,fun o=>a3.cell (p:=⟨w.heap.size,o,none⟩) d4 (fun e=>by have e' :w.heap.size<w.heap.size:=d3 _ e;omega)⟩;have:=(c6.at_ _ (j0c hl)).c0;rw[b7,←b1]at this;exact this
  clear hP b4 hi c8 c7 hG hT a8 a9 b7 b1 d6 hM f3 a4 b2;go_enter LO,LP;go_wp2;have b5:tH w.heap.size w (w.alloc (Obj.cells #[.slice pa c.parents.length pc,.slice ta tn tc] 114)):=(j0g _ _).alloc (j0a _) _;have f4:(w.alloc (Obj.cells #[.slice pa c.parents.length pc,.slice ta tn tc] 114)).heap.size=w.heap.size+1:=by simp
  have x0:(w.alloc (Obj.cells #[.slice pa c.parents.length pc,.slice ta tn tc] 114)).cell? ⟨w.heap.size,0,none⟩=some (.slice pa c.parents.length pc):=by simp
  have x1:(w.alloc (Obj.cells #[.slice pa c.parents.length pc,.slice ta tn tc] 114)).cell? ⟨w.heap.size,1,none⟩=some (.slice ta tn tc):=by simp
  generalize w.alloc (Obj.cells #[.slice pa c.parents.length pc,.slice ta tn tc] 114)=W1 at*;have g2 :=(b5.cell (p:=⟨bb,0,none⟩) d5).trans k0;have c9:tH w.heap.size w W1.drew:=b5.drew;have d7:w.heap.size<W1.drew.heap.size:=by show _<W1.heap.size;omega
  clear b5 f4 k0;go_region_held3 (fun w' =>w'.cell? ⟨bb,0,none⟩=some (.string ⟨name.toArray⟩)∧w'.cell? ⟨w.heap.size,0,none⟩=some (.slice pa c.parents.length pc)∧w'.cell? ⟨w.heap.size,1,none⟩=some (.slice ta tn tc)) (go_keep)
   (first
    |(go_at_call 97;with_reducible refine(HK.out _ c9).mono ?_;rintro e w9 ⟨rfl,a2,a0,a5⟩;obtain⟨f8,e7⟩:=d8.out _ _ _ _ a5 d7;have e2:=z4 a5;clear a5)
    |(go_at_call 48;with_reducible refine(e1.out _ _ _ _ e2.out c9 d7).mono ?_;rintro e g3 ⟨rfl,a1,h1,h0,e8⟩))
  all_goals
   rename_i a6;clear a6 e7 e8;go_wp2;go_ret2;rw[HS.out];exact⟨by first|rfl|simp,a1.out⟩
theorem Fe (s:List UInt8)(w:eX)(hs:s.length≤maxLen):
  wH sU 113 #[.string ⟨s.toArray⟩] w fun e w' =>e= .returned (.bool (R.isText s))∧w' =w:=by
 have h:=Oz ⟨s.toArray⟩ w (by simpa[ByteArray.size]using hs);simpa using h
theorem C1 (v:eB)(t:List R.Leaf)(s text:List UInt8)(w:eX)(M:Nat→Prop)(hM:∀b,M b→b<w.heap.size)(h:PT w M v t)(a6:OkT t)(hs:R.isPath s=true)(b8:text.length≤maxLen):
  wH sU 74 #[v,.string ⟨s.toArray⟩,.string ⟨text.toArray⟩] w fun e w' =>Qt w w' M e t (R.noteV t (R.at_ t s) s text):=by
 have b6:=a6.few;have b7:s.length≤1000:=by have:=Y7 _ hs;omega
 have b3:∀x∈t,x.path.length≤1000:=fun x hx=>(a6.ok x hx).good.path
 have a7:=Fe text w b8;have a2:=J5 v t s 2 w M h (by omega) a6.sort b3 b7;have a9:=fun W (hW:tH w.heap.size w W)=>Gk v t s W M (h.below hW) (by omega) a6.sort
 have a3:=atX a6 s;have a0:=fun W (hW:tH w.heap.size w W) (hT:R.isText text=true)=>UK v t {path:=s,kind:=61,n:=0,text:=text,items:=[]} (.slice none 0 0) W M (fun b hb=>by have:=hM b hb;have:=hW.size;omega) (h.below hW) a6 hs (cR W M _ rfl) (.inr ⟨hs,.inr (.inl ⟨rfl,rfl,rfl⟩),by simp,by simp,hT,by simp,by simp,fun i j hi=>by simp at hi⟩) (by simp)
 clear h a6 b3;generalize R.at_ t s=x at*;by_cases c0:R.isText text=false
 ·have HR:Hid (R.noteV t x s text=(3,x)):=by show _=_;rw[R.noteV,if_pos c0]
  rw[c0]at a7;clear a3 c0 a0;go_enter LQ,LR;go_wp2_with fail
  refine a7.mono ?_;rintro e w0 ⟨rfl,a4⟩;subst a4;go_wp2;go_ret2;exact⟨none,0,0,ZA (by rw[HR.out]),(fun h=>by rw[HR.out]at h;cases h),j0g _ _⟩
 have a8 :R.isText text=true:=by simpa using c0
 rw[a8]at a7;have a5 :=fun W hW=>a0 W hW a8
 clear a0;by_cases c1:x.kind≠0∧x.kind≠61
 ·have e1:((pk x !=0)&&(pk x !=2))=true:=by
   rw[a3.oth 2 61 (by simp)];exact decide_eq_true c1
  have HR:Hid (R.noteV t x s text=(6,x)):=by show _=_;rw[R.noteV,if_neg c0,if_pos c1]
  rw[e1]at a2;simp only[if_true]at a2;clear a3 c1 e1 c0 a8;go_enter LQ,LR;go_wp2_with fail
  refine a7.mono ?_;rintro e w0 ⟨rfl,a4⟩;subst a4;go_wp2_with fail
  refine a2.mono ?_;rintro e w1 ⟨rfl,a1⟩;go_wp2;go_ret2;exact⟨none,0,0,ZA (by rw[HR.out]),(fun h=>by rw[HR.out]at h;cases h),a1⟩
 have e1:((pk x !=0)&&(pk x !=2))=false:=by
  rw[a3.oth 2 61 (by simp)];exact decide_eq_false c1
 rw[e1]at a2;simp only[eU,if_false]at a2;by_cases c2:R.blocked t s=true
 ·have HR:Hid (R.noteV t x s text=(7,x)):=by show _=_;rw[R.noteV,if_neg c0,if_neg c1,if_pos c2]
  rw[if_pos c2]at a2;clear a3 c1 e1 c2 c0 a8;go_enter LQ,LR;go_wp2_with fail
  refine a7.mono ?_;rintro e w0 ⟨rfl,a4⟩;subst a4;go_wp2_with fail
  refine a2.mono ?_;rintro e w1 ⟨rfl,a1⟩;go_wp2;go_ret2;exact⟨none,0,0,ZA (by rw[HR.out]),(fun h=>by rw[HR.out]at h;cases h),a1⟩
 rw[if_neg c2]at a2;by_cases c4:x.kind=0∧24≤t.length
 ·have HR:Hid (R.noteV t x s text=(4,x)):=by show _=_;rw[R.noteV,if_neg c0,if_neg c1,if_neg c2,if_pos c4]
  have e4:((pk x==0)&&decide (24≤t.length))=true:=by
   rw[a3.zero,decide_eq_true c4.1,decide_eq_true c4.2];rfl
  rw[e4]at a9;clear a3 c1 e1 c2 c4 e4 c0 a8;go_enter LQ,LR;go_wp2_with fail
  refine a7.mono ?_;rintro e w0 ⟨rfl,a4⟩;subst a4;go_wp2_with fail
  refine a2.mono ?_;rintro e w1 ⟨rfl,a1⟩;go_wp2_with fail
  refine(a9 _ a1).mono ?_;rintro e w3 ⟨rfl,b2⟩;go_wp2;go_ret2;exact⟨none,0,0,ZA (by rw[HR.out]),(fun h=>by rw[HR.out]at h;cases h),a1.trans (b2.mono a1.size)⟩
 have HR:Hid (R.noteV t x s text=(0,{path:=s,kind:=61,n:=0,text:=text,items:=[]})):=by show _=_;rw[R.noteV,if_neg c0,if_neg c1,if_neg c2,if_neg c4]
 have e4:((pk x==0)&&decide (24≤t.length))=false:=by
  rw[a3.zero,←LS];exact decide_eq_false c4
 rw[e4]at a9;clear a3 c1 e1 c2 c4 e4 c0 a8;go_enter LQ,LR;go_wp2_with fail
 refine a7.mono ?_;rintro e w0 ⟨rfl,a4⟩;subst a4;go_wp2_with fail
 refine a2.mono ?_;rintro e w1 ⟨rfl,a1⟩;go_wp2_with fail
 refine(a9 _ a1).mono ?_;rintro e w3 ⟨rfl,b2⟩;have b1:=a1.trans (b2.mono a1.size);go_wp2_with fail
 refine(a5 _ b1).mono ?_;rintro e w4 ⟨v4,rfl,b4,b5⟩;obtain⟨va,vc,rfl⟩:=Y2 b4;go_wp2;go_ret2;exact⟨va,_,vc,ZA (by rw[HR.out]),(fun _=>by rw[HR.out];exact b4),b1.trans (b5.mono b1.size)⟩
theorem c_ (v:eB)(t:List R.Leaf)(s:List UInt8)(w:eX)(M:Nat→Prop)(hM:∀b,M b→b<w.heap.size)(h:PT w M v t)(a1:OkT t)(hs:R.isPath s=true):
  wH sU 76 #[v,.string ⟨s.toArray⟩] w fun e w' =>Qt w w' M e t (R.delV (R.at_ t s) s):=by
 have a6:=a1.few;have a3:=UR v t s w M h (by omega) a1.sort;have a2:=atX a1 s;have a8:=fun W (hW:tH w.heap.size w W)=>uA v t s W M (fun b hb=>by have:=hM b hb;have:=hW.size;omega) (h.below hW) a1 hs
 clear h a1;generalize R.at_ t s=x at*;have a9:=qZ (pk x);by_cases c1:x.kind=0
 ·have HR:Hid (R.delV x s=(10,x)):=by show _=_;rw[R.delV,if_pos c1]
  have e1:(pk x==0)=true:=by rw[a2.zero];exact decide_eq_true c1
  clear a2 c1;go_enter LU,LV;go_wp2_with fail
  refine a3.mono ?_;rintro e w1 ⟨ia,ic,rfl,a7,a0⟩;go_wp2;go_ret2;exact⟨none,0,0,ZA (by rw[HR.out]),(fun h=>by rw[HR.out]at h;cases h),a0⟩
 ·have HR:Hid (R.delV x s=(0,R.none s)):=by show _=_;rw[R.delV,if_neg c1]
  have e1:(pk x==0)=false:=by rw[a2.zero];exact decide_eq_false c1
  clear a2 c1;go_enter LU,LV;go_wp2_with fail
  refine a3.mono ?_;rintro e w1 ⟨ia,ic,rfl,a7,a0⟩;go_wp2_with fail
  refine(a8 _ a0).mono ?_;rintro e w4 ⟨v4,rfl,a4,a5⟩;obtain⟨va,vc,rfl⟩:=Y2 a4;go_wp2;go_ret2;exact⟨va,_,vc,ZA (by rw[HR.out]),(fun _=>by rw[HR.out];exact a4),a0.trans (a5.mono a0.size)⟩
def ZJ (x:R.Leaf)(s:List UInt8):R.Leaf:={path:=x.path,kind:=if R.without x.items s=[]then 0 else 42,n:=0,text:=[],items:=R.without x.items s}
theorem JB (x:R.Leaf)(iv:eB)(s:List UInt8)(w:eX)(M:Nat→Prop)(hM:∀b,M b→b<w.heap.size)(h:It w M (x,iv))(b5:OkL x)(a1:(x.items.any fun y=>y==s)=true):
  wH sU 102 #[.agg #[.int .i64 (pk x),.int .i64 x.n,.string ⟨x.text.toArray⟩,iv],.string ⟨s.toArray⟩] w fun e w' =>∃ia ic,e= .returned (.agg #[.int .i64 (pk (ZJ x s)),.int .i64 0,.string ⟨#[]⟩,.slice ia (R.without x.items s).length ic])∧It w' M (ZJ x s,.slice ia (R.without x.items s).length ic)∧tH w.heap.size w w' :=by
 have hl:=b5.many;have a0:=b5.sort;obtain⟨ia,ic,c9,h1,h2,h3⟩:=h;dsimp only at c9 h1 h2 h3;subst c9;have b4:It w M (x,.slice ia x.items.length ic):=⟨ia,ic,rfl,h1,h2,h3⟩
 have a7:=fun W (hW:tH w.heap.size w W)=>Yi (.slice ia x.items.length ic) x.items s W M (Rd.below b4 hW) (by omega) a0 (a0.mono s)
 have b3:=fun W (hW:tH w.heap.size w W)=>jw (.slice ia x.items.length ic) x.items W M (Rd.below b4 hW) (by omega)
 have HI:Hid (R.without x.items s=x.items.take (xB x.items s)++x.items.drop (xB x.items s+1)):=oC a0 s a1;have d7:xB x.items s<x.items.length:=(YX (k:=id) a0.k a1).1;rw[a1]at a7;have a6:(R.without x.items s).length=x.items.length-1:=by
  rw[HI.out];simp only[nL,List.length_take,List.length_drop];omega
 clear h1 h2 h3 a0 b5 a1;generalize xB x.items s=p at*;by_cases h1:x.items.length=1
 ·have d8:R.without x.items s=[]:=List.eq_nil_of_length_eq_zero (by omega)
  have b1:pk (ZJ x s)=0:=by simp[ZJ,d8,pk]
  have d6:((x.items.length:Int)==1)=true:=by simp[h1]
  have a9:(R.without x.items s).length=0:=by omega
  rw[b1,a9];clear a6 b3 HI;clear h1;go_enter LX,LY;go_wp2_with fail
  refine(a7 _ (((j0g _ _).alloc (j0a _) _).alloc (by simp) _)).mono ?_;rintro e w1 ⟨rfl,c6⟩;subst c6;go_wp2;refine bodyPost_ret (v:= .agg #[.int .i64 0,.int .i64 0,.string ⟨#[]⟩,.slice none 0 0]) (by simp[results,LZ,go_sem]) rfl ⟨none,0,rfl,⟨none,0,by simp[ZJ,a9],by simp[ZJ,a9],by unfold maxLen;omega,fun h=>by simp[ZJ,a9]at h⟩,?_⟩;exact((j0g _ _).alloc (j0a _) _).alloc (by simp) _
 ·have d9:R.without x.items s≠ []:=by intro e;rw[e]at a6;simp at a6;omega
  have b1:pk (ZJ x s)=3:=by simp[ZJ,d9,pk]
  have d6:((x.items.length:Int)==1)=false:=by rw[Bool.eq_false_iff];simp;omega
  rw[b1];clear b1;go_enter LX,LY;go_wp2_with fail
  refine(a7 _ (((j0g _ _).alloc (j0a _) _).alloc (by simp) _)).mono ?_;rintro e w1 ⟨rfl,c6⟩;subst c6;go_wp2_with fail
  refine(b3 _ (((j0g _ _).alloc (j0a _) _).alloc (by simp) _)).mono ?_;rintro e w2 ⟨v2,rfl,ho,a4⟩;have e3:w.heap.size+2≤w2.heap.size:=by have:=a4.size;simpa using this
  have x0:w2.cell? ⟨w.heap.size+1,0,none⟩=some (.int .i64 0):=by rw[a4.cell (p:=⟨w.heap.size+1,0,none⟩) (by simp)];simp
  have x1:w2.cell? ⟨w.heap.size+1,1,none⟩=some (.int .i64 0):=by rw[a4.cell (p:=⟨w.heap.size+1,1,none⟩) (by simp)];simp
  have x2:w2.cell? ⟨w.heap.size+1,2,none⟩=some (.string ⟨#[]⟩):=by rw[a4.cell (p:=⟨w.heap.size+1,2,none⟩) (by simp)];simp
  have x3:w2.cell? ⟨w.heap.size+1,3,none⟩=some (.slice none 0 0):=by rw[a4.cell (p:=⟨w.heap.size+1,3,none⟩) (by simp)];simp
  have fz:∀j,w2.frozen? ⟨w.heap.size+1,j,none⟩=false:=fun j=>by rw[a4.frozen (p:=⟨w.heap.size+1,j,none⟩) (by simp)];simp
  have c7:Hid (tH w.heap.size w w2):=(((j0g _ _).alloc (j0a _) _).alloc (by simp) _).trans (a4.mono (by simp;omega));have b7 :w2.ownsRow (w.heap.size+2) 9 1 v2 x.items.length (x.items.map S):=by simpa using ho
  have a5:=cg D0 v2 x.items.length p (w.heap.size+2) (x.items.map S) w2 b7 d7 (fm _);have b2:Hid (∀g,v2.ownBlock=some g→w.heap.size+2≤g∧g<w2.heap.size):=b7.lt;clear a4 ho b7 b4 b3 a7;go_wp2_with fail
  refine a5.mono ?_;rintro e w3 ⟨v3,rfl,b8,a8,_⟩;have e6:w2.heap.size≤w3.heap.size:=a8.size;have a2:w3.heap[w.heap.size+1]? =w2.heap[w.heap.size+1]? :=by
   exact a8.block _ (by omega) (fun e=>by have:=b2.out _ e.symm;omega)
  have y0:=(sD (a:=⟨w.heap.size+1,0,none⟩) a2).trans x0;have y1:=(sD (a:=⟨w.heap.size+1,1,none⟩) a2).trans x1;have y2:=(sD (a:=⟨w.heap.size+1,2,none⟩) a2).trans x2;have y3:=(sD (a:=⟨w.heap.size+1,3,none⟩) a2).trans x3;have f0:=(I4 (a:=⟨w.heap.size+1,0,none⟩) a2).trans (fz 0);have f1:=(I4 (a:=⟨w.heap.size+1,1,none⟩) a2).trans (fz 1);have f2:=(I4 (a:=⟨w.heap.size+1,2,none⟩) a2).trans (fz 2);have f3:=(I4 (a:=⟨w.heap.size+1,3,none⟩) a2).trans (fz 3);have d4:Hid (tH w.heap.size w w3):=c7.out.grown a8 (by omega) (fun k hk=>by have:=b2.out k hk;omega);have c8:Hid (w3.ownsRow (w.heap.size+2) 9 1 v3 (R.without x.items s).length ((R.without x.items s).map S)):=by
   show w3.ownsRow _ _ _ _ _ _;rw[a6,HI.out];simpa[S,List.map_take,List.map_drop]using b8
  have b6:v3.ownBlock≠some (w.heap.size+1):=fun e=>by have:=(b8.lt _ e).1;omega
  obtain⟨a3,c3,d3,_,_,_,_⟩:=zh c8.out;have e1:=z9 d3;subst d3;clear a2 x0 x1 x2 x3 fz a8 b8 a5 c7 b2 a6;go_wp2;obtain⟨z0,z1,z2,z3⟩:=Qi w3 (w.heap.size+1) (.int .i64 3) (.int .i64 0) (.string ⟨#[]⟩) (.slice a3 (R.without x.items s).length c3) _ _ _ _ y0 y1 y2 y3;have hK:zf (fun k=>k=w.heap.size+1) w3 ((((w3.setCell ⟨w.heap.size+1,0,none⟩ (.int .i64 3)).setCell ⟨w.heap.size+1,1,none⟩ (.int .i64 0)).setCell ⟨w.heap.size+1,2,none⟩ (.string ⟨#[]⟩)).setCell ⟨w.heap.size+1,3,none⟩ (.slice a3 (R.without x.items s).length c3)):=
   ((((zf.refl (fun k=>k=w.heap.size+1) w3).setCell (p:=⟨w.heap.size+1,0,none⟩) (.inl rfl) _).setCell (p:=⟨w.heap.size+1,1,none⟩) (.inl rfl) _).setCell (p:=⟨w.heap.size+1,2,none⟩) (.inl rfl) _).setCell (p:=⟨w.heap.size+1,3,none⟩) (.inl rfl) _
  have d5:tH w.heap.size w ((((w3.setCell ⟨w.heap.size+1,0,none⟩ (.int .i64 3)).setCell ⟨w.heap.size+1,1,none⟩ (.int .i64 0)).setCell ⟨w.heap.size+1,2,none⟩ (.string ⟨#[]⟩)).setCell ⟨w.heap.size+1,3,none⟩ (.slice a3 (R.without x.items s).length c3)):=
   (((d4.out.setCell (p:=⟨w.heap.size+1,0,none⟩) (L3 _) _).setCell (p:=⟨w.heap.size+1,1,none⟩) (L3 _) _).setCell (p:=⟨w.heap.size+1,2,none⟩) (L3 _) _).setCell (p:=⟨w.heap.size+1,3,none⟩) (L3 _) _
  generalize((((w3.setCell ⟨w.heap.size+1,0,none⟩ (.int .i64 3)).setCell ⟨w.heap.size+1,1,none⟩ (.int .i64 0)).setCell ⟨w.heap.size+1,2,none⟩ (.string ⟨#[]⟩)).setCell ⟨w.heap.size+1,3,none⟩ (.slice a3 (R.without x.items s).length c3))=w9 at*;have b9:=zr c8.out hK (fun g e e2=>b6 (by rw[e,e2]));exact bodyPost_ret (v:= .agg #[.int .i64 3,.int .i64 0,.string ⟨#[]⟩,.slice a3 (R.without x.items s).length c3]) (by simp[results,LZ,go_sem,z0,z1,z2,z3]) rfl ⟨a3,c3,rfl,Rd.of_owns b9 (fun b hb=>by have:=hM b hb;omega),d5⟩
theorem Ba (v:eB)(t:List R.Leaf)(s text:List UInt8)(w:eX)(M:Nat→Prop)(hM:∀b,M b→b<w.heap.size)(h:PT w M v t)(b4:OkT t)(hs:R.isPath s=true)(f4:text.length≤maxLen):
  wH sU 61 #[v,.string ⟨s.toArray⟩,.string ⟨text.toArray⟩] w fun e w' =>Qt w w' M e t (R.putV t (R.at_ t s) s text):=by
 have f0:=b4.few;have f3:s.length≤1000:=by have:=Y7 _ hs;omega
 have e2:∀x∈t,x.path.length≤1000:=fun x hx=>(b4.ok x hx).good.path
 have b5:=OC text w f4;have a9:=J5 v t s 3 w M h (by omega) b4.sort e2 f3;have d7:=fun W (hW:tH w.heap.size w W)=>UR v t s W M (h.below hW) (by omega) b4.sort
 have c7:=fun W (hW:tH w.heap.size w W)=>Gk v t s W M (h.below hW) (by omega) b4.sort
 have b2:=atX b4 s;have HM:=z9 hM;have a4:=fun W (hW:tH w.heap.size w W) (x:R.Leaf) (iv:eB) (a7:It W M (ZY x (R.item x.items text),iv)) (hp:x.path=s) (hx:OkL (ZY x (R.item x.items text)))=>UK v t (ZY x (R.item x.items text)) iv W M (fun b hb=>by have:=hM b hb;have:=hW.size;omega) (h.below hW) b4 (by rw[show(ZY x (R.item x.items text)).path=s from hp];exact hs) a7 (.inr hx) (by simp[ZY])
 clear h b4 e2 hM;generalize R.at_ t s=x at*;by_cases c0:(!R.isText text||text==[])=true
 ·have HR:Hid (R.putV t x s text=(3,x)):=by show _=_;rw[R.putV,if_pos c0]
  rw[c0]at b5;clear b2 c0 a4;go_enter M1,M2;go_wp2_with fail
  refine b5.mono ?_;rintro e w0 ⟨rfl,b1⟩;subst b1;go_wp2;go_ret2;exact⟨none,0,0,ZA (by rw[HR.out]),(fun h=>by rw[HR.out]at h;cases h),by first|exact j0g _ _|exact(j0g _ _).alloc (j0a _) _⟩
 have c6 :(!R.isText text||text==[])=false:=by simpa using c0
 have hT:R.isText text=true∧text≠ []:=by simpa using c6
 rw[c6]at b5;by_cases c1:x.kind≠0∧x.kind≠42
 ·have e1:((pk x !=0)&&(pk x !=3))=true:=by
   rw[b2.oth 3 42 (by simp)];exact decide_eq_true c1
  have HR:Hid (R.putV t x s text=(6,x)):=by show _=_;rw[R.putV,if_neg c0,if_pos c1]
  rw[e1]at a9;simp only[if_true]at a9;clear b2 c1 e1 c0 c6 hT a4;go_enter M1,M2;go_wp2_with fail
  refine b5.mono ?_;rintro e w0 ⟨rfl,b1⟩;subst b1;go_wp2_with fail
  refine a9.mono ?_;rintro e w1 ⟨rfl,a0⟩;go_wp2;go_ret2;exact⟨none,0,0,ZA (by rw[HR.out]),(fun h=>by rw[HR.out]at h;cases h),by first|exact a0|exact a0.alloc a0.size _⟩
 have e1:((pk x !=0)&&(pk x !=3))=false:=by
  rw[b2.oth 3 42 (by simp)];exact decide_eq_false c1
 rw[e1]at a9;simp only[eU,if_false]at a9;by_cases c2:R.blocked t s=true
 ·have HR:Hid (R.putV t x s text=(7,x)):=by show _=_;rw[R.putV,if_neg c0,if_neg c1,if_pos c2]
  rw[if_pos c2]at a9;clear b2 c1 e1 c2 c0 c6 hT a4;go_enter M1,M2;go_wp2_with fail
  refine b5.mono ?_;rintro e w0 ⟨rfl,b1⟩;subst b1;go_wp2_with fail
  refine a9.mono ?_;rintro e w1 ⟨rfl,a0⟩;go_wp2;go_ret2;exact⟨none,0,0,ZA (by rw[HR.out]),(fun h=>by rw[HR.out]at h;cases h),by first|exact a0|exact a0.alloc a0.size _⟩
 rw[if_neg c2]at a9;have hk:x=R.none x.path∨(OkL x∧x.kind=42):=by
  rcases b2.kinds with k|k|k|k
  ·exact .inl (by rw[b2.path];exact k.2.2)
  ·exact absurd ⟨by rw[k.1];decide,by rw[k.1];decide⟩ c1
  ·exact absurd ⟨by rw[k.1];decide,by rw[k.1];decide⟩ c1
  ·exact .inr ⟨k.2.2,k.1⟩
 have d6:=fun W (hW:tH w.heap.size w W) (ia:Option Addr) (ic:Nat) (a7:It W M (x,.slice ia x.items.length ic))=>Gf x (.slice ia x.items.length ic) text W M (fun b hb=>by have:=HM.out b hb;have:=hW.size;omega) a7 hk
 have f6:(R.item x.items text).length≤9:=by
  have h1:=R.item_length text x.items false;have h2:x.items.length≤8:=by
   rcases hk with hk|⟨hk,_⟩
   ·rw[hk];simp[R.none]
   ·exact hk.many
  unfold R.item;omega
 have c9:=b2.zero;have a1:=b2.path;have d9:Zb x.items:=by
  rcases hk with hk|⟨hk,_⟩
  ·rw[hk];intro i j hi;simp[R.none]at hi
  ·exact hk.sort
 have e8:Hid ((R.item x.items text).length≤8→OkL (ZY x (R.item x.items text))):=by
  intro h8;refine⟨by show R.isPath x.path=true;rw[a1];exact hs,.inr (.inr ⟨rfl,rfl,rfl,GZ _ d9 _⟩),by simp[ZY],by simp[ZY],rfl,h8,fun i hi=> ?_,kU d9 text⟩;rcases jZ hi with rfl|hi
  ·exact hT
  ·rcases hk with hk|⟨hk,_⟩
   ·rw[hk]at hi;simp[R.none]at hi
   ·exact hk.item i hi
 have HB:Hid (ZY x (R.item x.items text)={path:=s,kind:=42,n:=0,text:=[],items:=R.item x.items text}):=by show _=_;rw[ZY,a1]
 have a2 :=fun W hW iv a7 hx=>a4 W hW x iv a7 a1 hx
 have c8:pk (ZY x (R.item x.items text))=3:=by simp[pk,ZY]
 have e6:(ZY x (R.item x.items text)).path=s:=a1;simp only[c8,e6]at a2;have f5:=z9 a1;have d3:=z9 c0;have d4:=z9 c1;have d5:=z9 c2;clear b2 hk a4 d9 hT c0 c6 e1 a1 c8 e6 c1 c2
 cases hF:((pk x==0)&&decide (24≤t.length))
 ·rw[hF]at c7
  have d8:¬(x.kind=0∧24≤t.length):=by
   rw[c9,←LS]at hF;exact of_decide_eq_false hF
  clear hF c9;by_cases c5:8<(R.item x.items text).length
  ·have HR:Hid (R.putV t x s text=(4,x)):=by
    show _=_;rw[R.putV,if_neg d3.out,if_neg d4.out,if_neg d5.out,if_pos c5]
   clear a2 d8;go_enter M1,M2;go_wp2_with fail
   refine b5.mono ?_;rintro e w0 ⟨rfl,b1⟩;subst b1;go_wp2_with fail
   refine a9.mono ?_;rintro e w1 ⟨rfl,a0⟩;go_wp2_with fail
   refine(d7 _ a0).mono ?_;rintro e w2 ⟨ia,ic,rfl,a7,b3⟩;have a6:=a0.trans (b3.mono a0.size);go_wp2_with fail
   refine(d6 _ a6 ia ic (Rd.below a7 b3)).mono ?_;rintro e w3 ⟨ja,jc,rfl,a8,b7⟩;have a3:=a6.trans (b7.mono a6.size);go_wp2_with fail
   refine(c7 _ (a3.alloc a3.size _)).mono ?_;rintro e w4 ⟨rfl,a5⟩;have b6:=(a3.alloc a3.size _).trans (a5.mono (by simp;exact M3 a3.size));have y0:w4.cell? ⟨w3.heap.size,0,none⟩=some (.int .i64 3):=by rw[a5.cell (p:=⟨w3.heap.size,0,none⟩) (by simp)];simp
   have y1:w4.cell? ⟨w3.heap.size,1,none⟩=some (.int .i64 0):=by rw[a5.cell (p:=⟨w3.heap.size,1,none⟩) (by simp)];simp
   have y2:w4.cell? ⟨w3.heap.size,2,none⟩=some (.string ⟨#[]⟩):=by rw[a5.cell (p:=⟨w3.heap.size,2,none⟩) (by simp)];simp
   have y3:w4.cell? ⟨w3.heap.size,3,none⟩=some (.slice ja (R.item x.items text).length jc):=by rw[a5.cell (p:=⟨w3.heap.size,3,none⟩) (by simp)];simp
   have b9:Hid (It w4 M (ZY x (R.item x.items text),.slice ja (R.item x.items text).length jc)):=Rd.below a8 (((j0g _ _).alloc (j0a _) _).trans (a5.mono (by simp)));have b8:=z9 b6;clear a5 a8 b7 a7 b3 a0 a6 a3 b6;go_wp2;go_ret2;exact⟨none,0,0,ZA (by rw[HR.out]),(fun h=>by rw[HR.out]at h;cases h),b8.out⟩
  ·have HR:Hid (R.putV t x s text=(0,ZY x (R.item x.items text))):=by
    show _=_;rw[R.putV,if_neg d3.out,if_neg d4.out,if_neg d5.out,if_neg c5,if_neg d8,HB.out]
   have e7:=z9 (e8.out (by omega));clear d8;go_enter M1,M2;go_wp2_with fail
   refine b5.mono ?_;rintro e w0 ⟨rfl,b1⟩;subst b1;go_wp2_with fail
   refine a9.mono ?_;rintro e w1 ⟨rfl,a0⟩;go_wp2_with fail
   refine(d7 _ a0).mono ?_;rintro e w2 ⟨ia,ic,rfl,a7,b3⟩;have a6:=a0.trans (b3.mono a0.size);go_wp2_with fail
   refine(d6 _ a6 ia ic (Rd.below a7 b3)).mono ?_;rintro e w3 ⟨ja,jc,rfl,a8,b7⟩;have a3:=a6.trans (b7.mono a6.size);go_wp2_with fail
   refine(c7 _ (a3.alloc a3.size _)).mono ?_;rintro e w4 ⟨rfl,a5⟩;have b6:=(a3.alloc a3.size _).trans (a5.mono (by simp;exact M3 a3.size));have y0:w4.cell? ⟨w3.heap.size,0,none⟩=some (.int .i64 3):=by rw[a5.cell (p:=⟨w3.heap.size,0,none⟩) (by simp)];simp
   have y1:w4.cell? ⟨w3.heap.size,1,none⟩=some (.int .i64 0):=by rw[a5.cell (p:=⟨w3.heap.size,1,none⟩) (by simp)];simp
   have y2:w4.cell? ⟨w3.heap.size,2,none⟩=some (.string ⟨#[]⟩):=by rw[a5.cell (p:=⟨w3.heap.size,2,none⟩) (by simp)];simp
   have y3:w4.cell? ⟨w3.heap.size,3,none⟩=some (.slice ja (R.item x.items text).length jc):=by rw[a5.cell (p:=⟨w3.heap.size,3,none⟩) (by simp)];simp
   have b9:Hid (It w4 M (ZY x (R.item x.items text),.slice ja (R.item x.items text).length jc)):=Rd.below a8 (((j0g _ _).alloc (j0a _) _).trans (a5.mono (by simp)));have b8:=z9 b6;clear a5 a8 b7 a7 b3 a0 a6 a3 b6;go_wp2_with fail
   refine(a2 _ b8.out _ b9.out e7.out).mono ?_;rintro e w5 ⟨v5,rfl,e3,e9⟩;obtain⟨va,vc,rfl⟩:=Y2 e3;go_wp2;go_ret2;exact⟨va,_,vc,ZA (by rw[HR.out]),(fun _=>by rw[HR.out];exact e3),b8.out.trans (e9.mono b8.out.size)⟩
 ·rw[hF]at c7
  have HR:Hid (R.putV t x s text=(4,x)):=by
   show _=_;rw[c9,←LS]at hF;rw[R.putV,if_neg d3.out,if_neg d4.out,if_neg d5.out,if_pos (of_decide_eq_true hF)];split<;>rfl
  clear hF c9 a2;go_enter M1,M2;go_wp2_with fail
  refine b5.mono ?_;rintro e w0 ⟨rfl,b1⟩;subst b1;go_wp2_with fail
  refine a9.mono ?_;rintro e w1 ⟨rfl,a0⟩;go_wp2_with fail
  refine(d7 _ a0).mono ?_;rintro e w2 ⟨ia,ic,rfl,a7,b3⟩;have a6:=a0.trans (b3.mono a0.size);go_wp2_with fail
  refine(d6 _ a6 ia ic (Rd.below a7 b3)).mono ?_;rintro e w3 ⟨ja,jc,rfl,a8,b7⟩;have a3:=a6.trans (b7.mono a6.size);go_wp2_with fail
  refine(c7 _ (a3.alloc a3.size _)).mono ?_;rintro e w4 ⟨rfl,a5⟩;have b6:=(a3.alloc a3.size _).trans (a5.mono (by simp;exact M3 a3.size));go_wp2;go_ret2;exact⟨none,0,0,ZA (by rw[HR.out]),(fun h=>by rw[HR.out]at h;cases h),b6⟩
theorem BP (v:eB)(t:List R.Leaf)(s text:List UInt8)(w:eX)(M:Nat→Prop)(hM:∀b,M b→b<w.heap.size)(h:PT w M v t)(b3:OkT t)(hs:R.isPath s=true)(e6:text.length≤maxLen):
  wH sU 63 #[v,.string ⟨s.toArray⟩,.string ⟨text.toArray⟩] w fun e w' =>Qt w w' M e t (R.takeV (R.at_ t s) s text):=by
 have e3:=b3.few;have b4:=OC text w e6;have b5:=Kt v t s 3 w M h (by omega) b3.sort;have d5:=fun W (hW:tH w.heap.size w W)=>UR v t s W M (h.below hW) (by omega) b3.sort
 have a6:=atX b3 s;have HM:=z9 hM;have a1:=fun W (hW:tH w.heap.size w W) (y:R.Leaf) (iv:eB) (a2:It W M (y,iv)) (hp:y.path=s) (hx:y.kind=0∨OkL y) (h0:y.kind=0→pk y=0)=>UK v t y iv W M (fun b hb=>by have:=hM b hb;have:=hW.size;omega) (h.below hW) b3 (by rw[hp];exact hs) a2 hx h0
 clear h b3 hM;generalize R.at_ t s=x at*;by_cases c0:(!R.isText text||text==[])=true
 ·have HR:Hid (R.takeV x s text=(3,x)):=by show _=_;rw[R.takeV,if_pos c0]
  rw[c0]at b4;clear a6 c0 a1;go_enter M4,M5;go_wp2_with fail
  refine b4.mono ?_;rintro e w0 ⟨rfl,b1⟩;subst b1;go_wp2;go_ret2;exact⟨none,0,0,ZA (by rw[HR.out]),(fun h=>by rw[HR.out]at h;cases h),j0g _ _⟩
 have b6 :(!R.isText text||text==[])=false:=by simpa using c0
 rw[b6]at b4;by_cases c1:x.kind≠0∧x.kind≠42
 ·have e1:((pk x !=0)&&(pk x !=3))=true:=by
   rw[a6.oth 3 42 (by simp)];exact decide_eq_true c1
  have HR:Hid (R.takeV x s text=(6,x)):=by show _=_;rw[R.takeV,if_neg c0,if_pos c1]
  rw[e1]at b5;clear a6 c1 e1 c0 b6 a1;go_enter M4,M5;go_wp2_with fail
  refine b4.mono ?_;rintro e w0 ⟨rfl,b1⟩;subst b1;go_wp2_with fail
  refine b5.mono ?_;rintro e w1 ⟨rfl,a8⟩;go_wp2;go_ret2;exact⟨none,0,0,ZA (by rw[HR.out]),(fun h=>by rw[HR.out]at h;cases h),a8⟩
 have e1:((pk x !=0)&&(pk x !=3))=false:=by
  rw[a6.oth 3 42 (by simp)];exact decide_eq_false c1
 rw[e1]at b5;have hk:x=R.none s∨(OkL x∧x.kind=42):=by
  rcases a6.kinds with k|k|k|k
  ·exact .inl k.2.2
  ·exact absurd ⟨by rw[k.1];decide,by rw[k.1];decide⟩ c1
  ·exact absurd ⟨by rw[k.1];decide,by rw[k.1];decide⟩ c1
  ·exact .inr ⟨k.2.2,k.1⟩
 have b7:Zb x.items∧x.items.length≤8:=by
  rcases hk with hk|⟨hk,_⟩
  ·rw[hk];exact⟨fun i j hi=>by simp[R.none]at hi,by simp[R.none]⟩
  ·exact⟨hk.sort,hk.many⟩
 have a3:=fun W (ia:Option Addr) (ic:Nat) (a2:It W M (x,.slice ia x.items.length ic))=>QG x (.slice ia x.items.length ic) text W M a2 (by have:=b7.2;omega) b7.1
 have c8:=z9 c0;have c9:=z9 c1
 cases a0:(x.items.any fun y=>y==text)
 ·have HR:Hid (R.takeV x s text=(10,x)):=by show _=_;rw[R.takeV,if_neg c8.out,if_neg c9.out,if_pos a0]
  rw[a0]at a3;clear a6 c1 e1 c0 b6 a1 hk b7 a0;go_enter M4,M5;go_wp2_with fail
  refine b4.mono ?_;rintro e w0 ⟨rfl,b1⟩;subst b1;go_wp2_with fail
  refine b5.mono ?_;rintro e w1 ⟨rfl,a8⟩;go_wp2_with fail
  refine(d5 _ a8).mono ?_;rintro e w2 ⟨ia,ic,rfl,a2,a5⟩;have a7:=a8.trans (a5.mono a8.size);go_wp2_with fail
  refine(a3 _ ia ic (Rd.below a2 (by first|exact a5|exact a5.alloc a5.size _))).mono ?_;rintro e w3 ⟨rfl,a9⟩;go_wp2;go_ret2;exact⟨none,0,0,ZA (by rw[HR.out]),(fun h=>by rw[HR.out]at h;cases h),by first|exact a7.trans (a9.mono a7.size)|exact(a7.alloc a7.size _).trans (a9.mono (by simp;exact M3 a7.size))⟩
 ·have b2:OkL x:=by
   rcases hk with hk|hk
   ·rw[hk]at a0;simp[R.none]at a0
   ·exact hk.1
  have HR:Hid (R.takeV x s text=(0,ZJ x text)):=by
   show _=_;rw[R.takeV,if_neg c8.out,if_neg c9.out,if_neg (by rw[a0];simp),ZJ,a6.path]
  have d8:=fun W (hW:tH w.heap.size w W) (ia:Option Addr) (ic:Nat) (a2:It W M (x,.slice ia x.items.length ic))=>JB x (.slice ia x.items.length ic) text W M (fun b hb=>by have:=HM.out b hb;have:=hW.size;omega) a2 b2 a0
  have d4:(ZJ x text).kind=0∨OkL (ZJ x text):=by
   by_cases hw:R.without x.items text=[]
   ·left;simp[ZJ,hw]
   ·right
    refine⟨b2.path,.inr (.inr ⟨by simp[ZJ,hw],rfl,rfl,hw⟩),by simp[ZJ],by simp[ZJ],rfl,?_,fun i hi=>b2.item i (List.mem_filter.1 hi).1,zW.i (List.Pairwise.sublist List.filter_sublist b2.sort.k)⟩;have:=pY (fun y:List UInt8=> !(y==text)) x.items;have:=b2.many;simp only[ZJ,R.without];omega
  have h0:(ZJ x text).kind=0→pk (ZJ x text)=0:=fun e=>by unfold pk;rw[e];simp
  have a4 :=fun W hW iv a2=>a1 W hW (ZJ x text) iv a2 a6.path d4 h0
  have d7:(ZJ x text).path=s:=a6.path;simp only[d7]at a4;rw[a0]at a3;clear a6 c1 e1 c0 b6 a1 hk b7 a0 b2 d4 h0 d7;go_enter M4,M5;go_wp2_with fail
  refine b4.mono ?_;rintro e w0 ⟨rfl,b1⟩;subst b1;go_wp2_with fail
  refine b5.mono ?_;rintro e w1 ⟨rfl,a8⟩;go_wp2_with fail
  refine(d5 _ a8).mono ?_;rintro e w2 ⟨ia,ic,rfl,a2,a5⟩;have a7:=a8.trans (a5.mono a8.size);go_wp2_with fail
  refine(a3 _ ia ic (Rd.below a2 (by first|exact a5|exact a5.alloc a5.size _))).mono ?_;rintro e w3 ⟨rfl,a9⟩;have y0:w3.cell? ⟨w2.heap.size,0,none⟩=some (.int .i64 (pk x)):=by rw[a9.cell (p:=⟨w2.heap.size,0,none⟩) (by simp)];simp
  have y1:w3.cell? ⟨w2.heap.size,1,none⟩=some (.int .i64 x.n):=by rw[a9.cell (p:=⟨w2.heap.size,1,none⟩) (by simp)];simp
  have y2:w3.cell? ⟨w2.heap.size,2,none⟩=some (.string ⟨x.text.toArray⟩):=by rw[a9.cell (p:=⟨w2.heap.size,2,none⟩) (by simp)];simp
  have y3:w3.cell? ⟨w2.heap.size,3,none⟩=some (.slice ia x.items.length ic):=by rw[a9.cell (p:=⟨w2.heap.size,3,none⟩) (by simp)];simp
  have d3:=(a7.alloc a7.size _).trans (a9.mono (by simp;exact M3 a7.size));have b9:Hid (It w3 M (x,.slice ia x.items.length ic)):=Rd.below (Rd.below a2 a5) (((j0g _ _).alloc (j0a _) _).trans (a9.mono (by simp)));have b8:=z9 d3;clear a9 a2 a5 a8 a7 d3 a3;go_wp2_with fail
  refine(d8 _ b8.out ia ic b9.out).mono ?_;rintro e w4 ⟨ja,jc,rfl,c7,d9⟩;have c6:=b8.out.trans (d9.mono b8.out.size);go_wp2_with fail
  refine(a4 _ c6 _ c7).mono ?_;rintro e w5 ⟨v5,rfl,d6,e2⟩;obtain⟨va,vc,rfl⟩:=Y2 d6;go_wp2;go_ret2;exact⟨va,_,vc,ZA (by rw[HR.out]),(fun _=>by rw[HR.out];exact d6),c6.trans (e2.mono c6.size)⟩
theorem Qh (B:Nat)(st:R.St)(a0 path:List UInt8)(kind n:Int)(text:List UInt8)(w:eX)(M O:Nat→Prop)(F:Nat)(C:List eB)(r:Int×R.Leaf)(h:PS w M O B st)(hM:∀b,M b→b<w.heap.size)(hi:Inv st)(hG:Zp w)(d9:path.length≤maxLen)
  (d6:F=56∨F=73∨F=60∨F=62∨F=75)
  (hr:r=R.valV kind (R.workOf st a0) (R.at_ (R.workOf st a0) path) path n text)
  (hF:R.isPath path=true→∀ta tc W,tH w.heap.size w W→PT W M (.slice ta (R.workOf st a0).length tc) (R.workOf st a0)→wH sU F (.slice ta (R.workOf st a0).length tc::C).toArray W fun e w' =>Qt W w' M e (R.workOf st a0) r):
  wH sU 55 #[.pointer (some ⟨B,0,none⟩),.string ⟨a0.toArray⟩,.string ⟨path.toArray⟩,.func (.func F) #[] C.toArray] w fun e w' =>e= .returned (.int .i64 (R.change st kind a0 path n text).1)∧zx w w' M O B (R.change st kind a0 path n text).2:=by
 have a9:=h;obtain⟨bv,cv,LB,LCm,hP⟩:=h;have a4:=qv hP hi a0;obtain⟨mx,d8⟩:=hG.mx;have b4:=fun W (hW:tH w.heap.size w W)=>OA path W d9 mx (by rw[hW.cell (p:=⟨0,0,none⟩) (by have:=hG.size;show 0<_;omega)];exact d8)
 have a7:=z9 a9;by_cases hf:R.fnd st.brs a0<st.brs.length
 ·obtain⟨hl,ha,he,_,c7⟩:=Zy hP a0 hf
  have a1:¬R.fndI st.brs a0<0:=by rw[R.fndI,if_pos hf];omega
  cases a2:R.isPath path
  ·have HR:Hid (R.change st kind a0 path n text=(2,st)):=by show _=_;rw[R.change,if_neg a1,if_pos a2]
   rw[a2]at b4;rw[ha]at a4;generalize(LB[R.fnd st.brs a0]'hl).2.1=bb at*;clear a9 hi hP hf a1 a2 he ha c7;go_enter M6,M7;go_wp2_with fail
   refine a4.mono ?_;rintro e w1 ⟨rfl,a6⟩;subst a6;go_wp2_with fail
   refine(b4 _ (j0g _ _)).mono ?_;rintro e w2 ⟨rfl,a3⟩;go_wp2;go_ret;exact⟨YP (by rw[HR.out]),by rw[HR.out];exact zx.same a7.out a3⟩
  ·have b3:=hP.at_ _ (j0c hl)
   have b8:=hP.blk _ (j0c hl);have b7:=hP.lt _ b8.1;rw[a2]at b4;rw[ha]at a4;have b5:Hid (∀(tv:eB) (t:List R.Leaf) (w5:eX),tH w.heap.size w w5→PT w5 M tv t→zx w (w5.setCell ⟨(LB[R.fnd st.brs a0]'hl).2.1,2,none⟩ tv) M O B (R.setWork st (R.fnd st.brs a0) t)):=fun tv t w5 hb ht=>gN hP hl hb ht
   have b9:=ZL hi a0;have a5:=b3.work;rw[←c7]at a5;have c2:=b3.c2;have d5:=b3.fr 2;obtain⟨ta,tc,c9⟩:=Y2 a5;rw[c9]at c2 a5;have c8:Hid (R.change st kind a0 path n text=if r.1=0 then(0,R.setWork st (R.fnd st.brs a0) (R.set (R.workOf st a0) r.2))else(r.1,st)):=by
    show _=_;rw[R.change,if_neg a1,if_neg (by rw[a2];simp),hr]
   have b6:=fun W (hW:tH w.heap.size w W)=>hF a2 ta tc W hW (a5.below hW)
   generalize(LB[R.fnd st.brs a0]'hl).2.1=bb at*;clear a9 hi hP hf a1 a2 he ha c7 a5 b3 b9 c9 hF hr;generalize R.workOf st a0=t at*;rcases d6 with rfl|rfl|rfl|rfl|rfl
   all_goals
    have e1:=a7.out;go_enter M6,M7;go_wp2_with fail
    refine a4.mono ?_;rintro e w1 ⟨rfl,a6⟩;subst a6;go_wp2_with fail
    refine(b4 _ (j0g _ _)).mono ?_;rintro e w2 ⟨rfl,a3⟩;have d2:=(a3.cell (p:=⟨bb,2,none⟩) b7).trans c2;go_wp2_with fail
    refine(b6 _ a3).mono ?_;rintro e w3 ⟨va,vn,vc,rfl,c6,d7⟩;have a8:=a3.trans (d7.mono a3.size);by_cases hr:r.1=0
    ·have b1:(r.1==0)=true:=by simpa using hr
     have b2:(r.1 !=0)=false:=by simp[hr]
     have d3:=(a8.cell (p:=⟨bb,2,none⟩) b7).trans c2;have f3:=(a8.frozen (p:=⟨bb,2,none⟩) b7).trans d5;have d4:=z9 (c6 hr);have HR:=z9 hr;clear hr c6 d2;go_wp2;go_ret;rw[c8.out,if_pos HR.out];exact⟨rfl,b5.out _ _ _ a8 d4.out⟩
    ·have b1:(r.1==0)=false:=by simpa using hr
     have b2:(r.1 !=0)=true:=by simp[hr]
     have HR:=z9 hr;clear hr c6 d2;go_wp2;go_ret;rw[c8.out,if_neg HR.out];exact⟨rfl,zx.same a7.out a8⟩
 ·have a1:R.fndI st.brs a0<0:=by rw[R.fndI,if_neg hf];omega
  have HR:Hid (R.change st kind a0 path n text=(5,st)):=by show _=_;rw[R.change,if_pos a1]
  have ha:Zh LB st a0=none:=by rw[Zh,if_neg hf]
  rw[ha]at a4;clear a9 hi hP hf a1 ha;go_enter M6,M7;go_wp2_with fail
  refine a4.mono ?_;rintro e w1 ⟨rfl,a6⟩;subst a6;go_wp2;go_ret;exact⟨YP (by rw[HR.out]),by rw[HR.out];exact zx.same a7.out (j0g _ _)⟩
theorem BZ (tv:eB)(t:List R.Leaf)(path:List UInt8)(n:Int)(w:eX)(M:Nat→Prop)(p0 p1:Nat)(hM:∀b,M b→b<w.heap.size)(h:PT w M tv t)(a0:OkT t)(hs:R.isPath path=true)(a2:n≤9223372036854775807)(a3: -9223372036854775808≤n)
  (a4:w.cell? ⟨p0,0,none⟩=some (.string ⟨path.toArray⟩))(a5:w.cell? ⟨p1,0,none⟩=some (.int .i64 n)):
  wH sU 56 #[tv,.pointer (some ⟨p0,0,none⟩),.pointer (some ⟨p1,0,none⟩)] w fun e w' =>Qt w w' M e t (R.addV t (R.at_ t path) path n):=by
 have a1:=Bb tv t path n w M hM h a0 hs a2 a3;clear h a0;go_enter Tryz.func56,Tryz.ntmps56;go_wp2_with fail
 refine a1.mono ?_;rintro e w1 ⟨va,vn,vc,rfl,hp,hb⟩;go_wp2;go_ret2;exact⟨va,vn,vc,rfl,hp,hb⟩
theorem bJ (tv:eB)(t:List R.Leaf)(path:List UInt8)(text:List UInt8)(w:eX)(M:Nat→Prop)(p0 p1:Nat)(hM:∀b,M b→b<w.heap.size)(h:PT w M tv t)(a0:OkT t)(hs:R.isPath path=true)(a2:text.length≤maxLen)
  (a3:w.cell? ⟨p0,0,none⟩=some (.string ⟨path.toArray⟩))(a4:w.cell? ⟨p1,0,none⟩=some (.string ⟨text.toArray⟩)):
  wH sU 73 #[tv,.pointer (some ⟨p0,0,none⟩),.pointer (some ⟨p1,0,none⟩)] w fun e w' =>Qt w w' M e t (R.noteV t (R.at_ t path) path text):=by
 have a1:=C1 tv t path text w M hM h a0 hs a2;clear h a0;go_enter Tryz.func73,Tryz.ntmps73;go_wp2_with fail
 refine a1.mono ?_;rintro e w1 ⟨va,vn,vc,rfl,hp,hb⟩;go_wp2;go_ret2;exact⟨va,vn,vc,rfl,hp,hb⟩
theorem BU (tv:eB)(t:List R.Leaf)(path:List UInt8)(text:List UInt8)(w:eX)(M:Nat→Prop)(p0 p1:Nat)(hM:∀b,M b→b<w.heap.size)(h:PT w M tv t)(a0:OkT t)(hs:R.isPath path=true)(a2:text.length≤maxLen)
  (a3:w.cell? ⟨p0,0,none⟩=some (.string ⟨path.toArray⟩))(a4:w.cell? ⟨p1,0,none⟩=some (.string ⟨text.toArray⟩)):
  wH sU 60 #[tv,.pointer (some ⟨p0,0,none⟩),.pointer (some ⟨p1,0,none⟩)] w fun e w' =>Qt w w' M e t (R.putV t (R.at_ t path) path text):=by
 have a1:=Ba tv t path text w M hM h a0 hs a2;clear h a0;go_enter Tryz.func60,Tryz.ntmps60;go_wp2_with fail
 refine a1.mono ?_;rintro e w1 ⟨va,vn,vc,rfl,hp,hb⟩;go_wp2;go_ret2;exact⟨va,vn,vc,rfl,hp,hb⟩
theorem bI (tv:eB)(t:List R.Leaf)(path:List UInt8)(text:List UInt8)(w:eX)(M:Nat→Prop)(p0 p1:Nat)(hM:∀b,M b→b<w.heap.size)(h:PT w M tv t)(a0:OkT t)(hs:R.isPath path=true)(a2:text.length≤maxLen)
  (a3:w.cell? ⟨p0,0,none⟩=some (.string ⟨path.toArray⟩))(a4:w.cell? ⟨p1,0,none⟩=some (.string ⟨text.toArray⟩)):
  wH sU 62 #[tv,.pointer (some ⟨p0,0,none⟩),.pointer (some ⟨p1,0,none⟩)] w fun e w' =>Qt w w' M e t (R.takeV (R.at_ t path) path text):=by
 have a1:=BP tv t path text w M hM h a0 hs a2;clear h a0;go_enter Tryz.func62,Tryz.ntmps62;go_wp2_with fail
 refine a1.mono ?_;rintro e w1 ⟨va,vn,vc,rfl,hp,hb⟩;go_wp2;go_ret2;exact⟨va,vn,vc,rfl,hp,hb⟩
theorem Ff (tv:eB)(t:List R.Leaf)(path:List UInt8)(w:eX)(M:Nat→Prop)(p0:Nat)(hM:∀b,M b→b<w.heap.size)(h:PT w M tv t)(a0:OkT t)(hs:R.isPath path=true)
  (a2:w.cell? ⟨p0,0,none⟩=some (.string ⟨path.toArray⟩)):
  wH sU 75 #[tv,.pointer (some ⟨p0,0,none⟩)] w fun e w' =>Qt w w' M e t (R.delV (R.at_ t path) path):=by
 have a1:=c_ tv t path w M hM h a0 hs;clear h a0;go_enter Tryz.func75,Tryz.ntmps75;go_wp2_with fail
 refine a1.mono ?_;rintro e w1 ⟨va,vn,vc,rfl,hp,hb⟩;go_wp2;go_ret2;exact⟨va,vn,vc,rfl,hp,hb⟩
theorem dG (B:Nat)(st:R.St)(a0 path:List UInt8)(n:Int)(w:eX)(M O:Nat→Prop)(h:PS w M O B st)(hM:∀b,M b→b<w.heap.size)(hi:Inv st)(hG:Zp w)(a5:path.length≤maxLen)(a2:n≤9223372036854775807)(a3: -9223372036854775808≤n):
  wH sU 27 #[.pointer (some ⟨B,0,none⟩),.string ⟨a0.toArray⟩,.string ⟨path.toArray⟩,.int .i64 n] w fun e w' =>e= .returned (.int .i64 (R.change st 35 a0 path n []).1)∧zx w w' M O B (R.change st 35 a0 path n []).2:=by
 have hB:tH w.heap.size w ((w.alloc (Obj.cells #[.string ⟨path.toArray⟩] 9)).alloc (Obj.cells #[.int .i64 n] 3)):=((j0g _ _).alloc (j0a _) _).alloc (by simp) _;have a1:=Qh B st a0 path 35 n [] ((w.alloc (Obj.cells #[.string ⟨path.toArray⟩] 9)).alloc (Obj.cells #[.int .i64 n] 3)) M O 56 [.pointer (some ⟨w.heap.size,0,none⟩),.pointer (some ⟨w.heap.size+1,0,none⟩)] _ (h.below hB) (fun b hb=>by have:=hM b hb;simp;omega) hi (hG.below hB) a5 (.inl rfl) rfl (fun a4 ta tc W hW hp=>BZ _ _ path n W M w.heap.size (w.heap.size+1) (fun b hb=>by have:=hM b hb;have:=hW.size;simp at this;omega) hp (ZL hi a0) a4 a2 a3 (by rw[hW.cell (p:=⟨w.heap.size,0,none⟩) (by simp<;>omega)];simp) (by rw[hW.cell (p:=⟨w.heap.size+1,0,none⟩) (by simp)];simp));clear h;go_enter Tryz.func27,Tryz.ntmps27;go_wp2_with fail
 refine a1.mono ?_;rintro e w1 ⟨rfl,a6⟩;go_wp2;go_ret;exact⟨rfl,a6.after hB⟩
theorem BV (B:Nat)(st:R.St)(a0 path:List UInt8)(text:List UInt8)(w:eX)(M O:Nat→Prop)(h:PS w M O B st)(hM:∀b,M b→b<w.heap.size)(hi:Inv st)(hG:Zp w)(a3:path.length≤maxLen)(a5:text.length≤maxLen):
  wH sU 41 #[.pointer (some ⟨B,0,none⟩),.string ⟨a0.toArray⟩,.string ⟨path.toArray⟩,.string ⟨text.toArray⟩] w fun e w' =>e= .returned (.int .i64 (R.change st 61 a0 path 0 text).1)∧zx w w' M O B (R.change st 61 a0 path 0 text).2:=by
 have hB:tH w.heap.size w ((w.alloc (Obj.cells #[.string ⟨path.toArray⟩] 9)).alloc (Obj.cells #[.string ⟨text.toArray⟩] 9)):=((j0g _ _).alloc (j0a _) _).alloc (by simp) _;have a1:=Qh B st a0 path 61 0 text ((w.alloc (Obj.cells #[.string ⟨path.toArray⟩] 9)).alloc (Obj.cells #[.string ⟨text.toArray⟩] 9)) M O 73 [.pointer (some ⟨w.heap.size,0,none⟩),.pointer (some ⟨w.heap.size+1,0,none⟩)] _ (h.below hB) (fun b hb=>by have:=hM b hb;simp;omega) hi (hG.below hB) a3 (.inr (.inl rfl)) rfl (fun a2 ta tc W hW hp=>bJ _ _ path text W M w.heap.size (w.heap.size+1) (fun b hb=>by have:=hM b hb;have:=hW.size;simp at this;omega) hp (ZL hi a0) a2 a5 (by rw[hW.cell (p:=⟨w.heap.size,0,none⟩) (by simp<;>omega)];simp) (by rw[hW.cell (p:=⟨w.heap.size+1,0,none⟩) (by simp)];simp));clear h;go_enter Tryz.func41,Tryz.ntmps41;go_wp2_with fail
 refine a1.mono ?_;rintro e w1 ⟨rfl,a4⟩;go_wp2;go_ret;exact⟨rfl,a4.after hB⟩
theorem dF (B:Nat)(st:R.St)(a0 path:List UInt8)(text:List UInt8)(w:eX)(M O:Nat→Prop)(h:PS w M O B st)(hM:∀b,M b→b<w.heap.size)(hi:Inv st)(hG:Zp w)(a3:path.length≤maxLen)(a5:text.length≤maxLen):
  wH sU 31 #[.pointer (some ⟨B,0,none⟩),.string ⟨a0.toArray⟩,.string ⟨path.toArray⟩,.string ⟨text.toArray⟩] w fun e w' =>e= .returned (.int .i64 (R.change st 42 a0 path 0 text).1)∧zx w w' M O B (R.change st 42 a0 path 0 text).2:=by
 have hB:tH w.heap.size w ((w.alloc (Obj.cells #[.string ⟨path.toArray⟩] 9)).alloc (Obj.cells #[.string ⟨text.toArray⟩] 9)):=((j0g _ _).alloc (j0a _) _).alloc (by simp) _;have a1:=Qh B st a0 path 42 0 text ((w.alloc (Obj.cells #[.string ⟨path.toArray⟩] 9)).alloc (Obj.cells #[.string ⟨text.toArray⟩] 9)) M O 60 [.pointer (some ⟨w.heap.size,0,none⟩),.pointer (some ⟨w.heap.size+1,0,none⟩)] _ (h.below hB) (fun b hb=>by have:=hM b hb;simp;omega) hi (hG.below hB) a3 (.inr (.inr (.inl rfl))) rfl (fun a2 ta tc W hW hp=>BU _ _ path text W M w.heap.size (w.heap.size+1) (fun b hb=>by have:=hM b hb;have:=hW.size;simp at this;omega) hp (ZL hi a0) a2 a5 (by rw[hW.cell (p:=⟨w.heap.size,0,none⟩) (by simp<;>omega)];simp) (by rw[hW.cell (p:=⟨w.heap.size+1,0,none⟩) (by simp)];simp));clear h;go_enter Tryz.func31,Tryz.ntmps31;go_wp2_with fail
 refine a1.mono ?_;rintro e w1 ⟨rfl,a4⟩;go_wp2;go_ret;exact⟨rfl,a4.after hB⟩
theorem BT (B:Nat)(st:R.St)(a0 path:List UInt8)(text:List UInt8)(w:eX)(M O:Nat→Prop)(h:PS w M O B st)(hM:∀b,M b→b<w.heap.size)(hi:Inv st)(hG:Zp w)(a3:path.length≤maxLen)(a5:text.length≤maxLen):
  wH sU 32 #[.pointer (some ⟨B,0,none⟩),.string ⟨a0.toArray⟩,.string ⟨path.toArray⟩,.string ⟨text.toArray⟩] w fun e w' =>e= .returned (.int .i64 (R.change st 45 a0 path 0 text).1)∧zx w w' M O B (R.change st 45 a0 path 0 text).2:=by
 have hB:tH w.heap.size w ((w.alloc (Obj.cells #[.string ⟨path.toArray⟩] 9)).alloc (Obj.cells #[.string ⟨text.toArray⟩] 9)):=((j0g _ _).alloc (j0a _) _).alloc (by simp) _;have a1:=Qh B st a0 path 45 0 text ((w.alloc (Obj.cells #[.string ⟨path.toArray⟩] 9)).alloc (Obj.cells #[.string ⟨text.toArray⟩] 9)) M O 62 [.pointer (some ⟨w.heap.size,0,none⟩),.pointer (some ⟨w.heap.size+1,0,none⟩)] _ (h.below hB) (fun b hb=>by have:=hM b hb;simp;omega) hi (hG.below hB) a3 (.inr (.inr (.inr (.inl rfl)))) rfl (fun a2 ta tc W hW hp=>bI _ _ path text W M w.heap.size (w.heap.size+1) (fun b hb=>by have:=hM b hb;have:=hW.size;simp at this;omega) hp (ZL hi a0) a2 a5 (by rw[hW.cell (p:=⟨w.heap.size,0,none⟩) (by simp<;>omega)];simp) (by rw[hW.cell (p:=⟨w.heap.size+1,0,none⟩) (by simp)];simp));clear h;go_enter Tryz.func32,Tryz.ntmps32;go_wp2_with fail
 refine a1.mono ?_;rintro e w1 ⟨rfl,a4⟩;go_wp2;go_ret;exact⟨rfl,a4.after hB⟩
theorem C3 (B:Nat)(st:R.St)(a0 path:List UInt8)(w:eX)(M O:Nat→Prop)(h:PS w M O B st)(hM:∀b,M b→b<w.heap.size)(hi:Inv st)(hG:Zp w)(a3:path.length≤maxLen):
  wH sU 42 #[.pointer (some ⟨B,0,none⟩),.string ⟨a0.toArray⟩,.string ⟨path.toArray⟩] w fun e w' =>e= .returned (.int .i64 (R.change st 0 a0 path 0 []).1)∧zx w w' M O B (R.change st 0 a0 path 0 []).2:=by
 have hB:tH w.heap.size w (w.alloc (Obj.cells #[.string ⟨path.toArray⟩] 9)):=(j0g _ _).alloc (j0a _) _;have a1:=Qh B st a0 path 0 0 [] (w.alloc (Obj.cells #[.string ⟨path.toArray⟩] 9)) M O 75 [.pointer (some ⟨w.heap.size,0,none⟩)] _ (h.below hB) (fun b hb=>by have:=hM b hb;simp;omega) hi (hG.below hB) a3 (.inr (.inr (.inr (.inr rfl)))) rfl (fun a2 ta tc W hW hp=>Ff _ _ path W M w.heap.size (fun b hb=>by have:=hM b hb;have:=hW.size;simp at this;omega) hp (ZL hi a0) a2 (by rw[hW.cell (p:=⟨w.heap.size,0,none⟩) (by simp)];simp));clear h;go_enter Tryz.func42,Tryz.ntmps42;go_wp2_with fail
 refine a1.mono ?_;rintro e w1 ⟨rfl,a4⟩;go_wp2;go_ret;exact⟨rfl,a4.after hB⟩
theorem C4 (B:Nat)(st:R.St)(name:List UInt8)(w:eX)(M O:Nat→Prop)(h:PS w M O B st)(hi:Inv st)(hM:∀b,M b→b<w.heap.size)(e9:st.packed.length≤100000000000)(hG:Zp w)(h6:∀b,O b→6≤b):
  wH sU 28 #[.pointer (some ⟨B,0,none⟩),.string ⟨name.toArray⟩] w fun e w' =>e= .returned (.tuple #[.int .i64 (R.commit st name).1.1,.int .i64 (R.commit st name).1.2])∧zx w w' M O B (R.commit st name).2:=by
 have a7:=h;obtain⟨bv,cv,LB,LCm,hP⟩:=h;have a3:=qv hP hi name;by_cases hf:R.fnd st.brs name<st.brs.length
 ·obtain⟨hl,ha,he,b5,b9⟩:=Zy hP name hf
  have a5:¬R.fndI st.brs name<0:=by rw[R.fndI,if_pos hf];omega
  have a8:=hP.at_ _ (j0c hl);have d3:=hP.lt _ (hP.blk _ (j0c hl)).1;have b3:=OF hP hi _ (j0c hl);rw[←b5,←b9]at b3;have c1:=a8.c1;have c2:=a8.c2;have a6:=a8.work;rw[←b9]at a6;rw[←b5]at c1;obtain⟨ta,tn,tc,d6⟩:∃a n k,(LB[R.fnd st.brs name]'hl).2.2= .slice a n k:=by obtain⟨L,_,⟨a,k,e,_⟩,_⟩:=a6;exact⟨a,_,k,e⟩
  rw[d6]at c2 a6;have b6:=QB hi name;have a0:=ZL hi name;have a4:=a0.inj (YA hi (R.headOf st name));rw[ha]at a3;have a1:Hid (∀W pa pc,tH w.heap.size w W→Rd W (fun b=>b<w.heap.size) (.slice pa (R.parsOf (R.headOf st name)).length pc) (R.parsOf (R.headOf st name)).length (Ym (R.parsOf (R.headOf st name)))→wH sU 58 #[.pointer (some ⟨B,0,none⟩),.pointer (some ⟨(LB[R.fnd st.brs name]'hl).2.1,0,none⟩),.agg #[.slice pa (R.parsOf (R.headOf st name)).length pc,.slice ta tn tc]] W fun e w' =>e= .returned (.tuple #[.int .i64 (Zd st name {tree:=R.workOf st name,parents:=R.parsOf (R.headOf st name)}).1.1,.int .i64 (Zd st name {tree:=R.workOf st name,parents:=R.parsOf (R.headOf st name)}).1.2])∧zx w w' M O B (Zd st name {tree:=R.workOf st name,parents:=R.parsOf (R.headOf st name)}).2):=fun W pa pc hW a9=>by
   have:=uC (hP.kept (Z:=fun _=>False) (zf.of_below hW) (fun _ e=>e.elim) (fun b e=> .inl e) hP.sub) hi name hf hl {tree:=R.workOf st name,parents:=R.parsOf (R.headOf st name)} pa pc ta tn tc (a6.below hW) (a9.step (zf.refl (fun _=>False) W) (fun _ e=>e.elim) (fun b e=> .inl (hM b e))) (fun b e=>j0b (hM b e) hW.size) a0 b6.1 b6.2 e9 (hG.below hW) h6;refine this.mono ?_;rintro e w' ⟨he,b1⟩;exact⟨he,zx.after hW b1⟩
  have e2:Hid (∀W,wH sU 59 #[.int .i64 (R.headOf st name:Int)] W fun e w' =>∃pa pc,e= .returned (.slice pa (R.parsOf (R.headOf st name)).length pc)∧Rd w' (fun b=>b<W.heap.size) (.slice pa (R.parsOf (R.headOf st name)).length pc) (R.parsOf (R.headOf st name)).length (Ym (R.parsOf (R.headOf st name)))∧tH W.heap.size W w'):=fun W=>Ow _ W
  have d8:Hid (R.workOf st name=R.treeOf st (R.headOf st name)→R.commit st name=((0,9),st)):=fun e=>by
   rw[R.commit,if_neg a5,if_pos (by rw[←e])]
  have c8:Hid (¬R.workOf st name=R.treeOf st (R.headOf st name)→R.commit st name=Zd st name {tree:=R.workOf st name,parents:=R.parsOf (R.headOf st name)}):=fun e=>by
   rw[R.commit,if_neg a5,if_neg (fun h=>e (a4.1 h)),Zd]
  have b2:=z4 a7;have d7:=z4 b3;have e1:=z4 a3;obtain⟨ad,c9⟩:∃ad,ad=Zd st name {tree:=R.workOf st name,parents:=R.parsOf (R.headOf st name)}:=⟨_,rfl⟩
  rw[←c9]at a1 c8;generalize(LB[R.fnd st.brs name]'hl).2.1=bb at*;clear hP a7 hi hG b3 a8 a6 b6 a0 a4 a3 b9 b5 he ha d6 c9 hM;generalize R.parsOf (R.headOf st name)=ps at*;generalize R.headOf st name=hd at*;generalize R.workOf st name=wk at*;go_enter M8,M9;go_wp2_with fail
  refine e1.out.mono ?_;rintro e w1 ⟨rfl,b8⟩;subst b8;go_wp2_with fail
  refine d7.out.mono ?_;rintro e w2 ⟨b,hb,rfl,a2⟩;have c6:=z4 a2;have c7:=z4 hb;have d1:=(a2.cell (p:=⟨bb,1,none⟩) d3).trans c1;have d2:=(a2.cell (p:=⟨bb,2,none⟩) d3).trans c2;have d5:=a2.size;clear hb a2
  cases b
  ·go_wp2
   go_ret2;rw[d8.out (c7.out.1 (by first|trivial|rfl))];exact⟨rfl,zx.same b2.out c6.out⟩
  ·have d9:Hid (R.commit st name=ad):=c8.out (fun e=>by have:=c7.out.2 e;first|exact this|cases this)
   have e7:tH w1.heap.size w1 w2.drew:=c6.out.drew;have e8:bb<w2.drew.heap.size:=by show bb<w2.heap.size;omega
   go_wp2;go_region_with (first
    |(go_at_call 59;refine(e2.out _).mono ?_;rintro e w9 ⟨pa,pc,rfl,a9,b4⟩;have e6:tH w1.heap.size w1 w9:=e7.trans (b4.mono d5);have d4:∀o,w9.cell? ⟨bb,o,none⟩=w2.drew.cell? ⟨bb,o,none⟩:=fun o=>b4.cell (p:=⟨bb,o,none⟩) e8;have b7:Rd w9 (fun b=>b<w1.heap.size) (.slice pa ps.length pc) ps.length (Ym ps):=Rd.step a9 (zf.refl (fun _=>False) w9) (fun _ e=>e.elim) (fun b e=> .inl (j0b e d5));have f2:w9.cell? ⟨bb,2,none⟩=some (.slice ta tn tc):=(d4 2).trans d2;clear a9 b4 d4)
    |(go_at_call 58;with_reducible refine(a1.out _ _ _ e6 b7).mono ?_;rintro e f0 ⟨rfl,b1⟩))
   all_goals
    have e3:=z4 b1;clear b1;go_wp2;go_ret2;rw[d9.out];exact⟨rfl,e3.out⟩
 ·have a5:R.fndI st.brs name<0:=by rw[R.fndI,if_neg hf];omega
  have HR:Hid (R.commit st name=((0,5),st)):=by show _=_;rw[R.commit,if_pos a5]
  have ha:Zh LB st name=none:=by rw[Zh,if_neg hf]
  rw[ha]at a3;have b2:=z4 a7;clear hP a7 hi hf a5 ha hG;go_enter M8,M9;go_wp2_with fail
  refine a3.mono ?_;rintro e w1 ⟨rfl,b8⟩;subst b8;go_wp2;go_ret2;rw[HR.out];exact⟨rfl,zx.same b2.out (j0g _ _)⟩
