import Derived.Test.YtolgebdmffcemaaGreatDoorQ12
import Derived.Test.YtolgebdmffcemaaGreatDoorQ17
set_option linter.all false
set_option maxHeartbeats 20000000
set_option maxRecDepth 1000000
open Go renaming World→eX,Value→eB
open Go.World renaming cell?→sE,ownsRow_nil→ES
open Go.Proofs.Tryz renaming prog→sU,func38→MA,ntmps38→MB
open List renaming size_toArray→tQ,length_cons→nM,length_nil→pC,range→mO
open Nat renaming reduceAdd→tR,zero_add→lQ
namespace Go.Proofs.YtolgebdmffcemaaGreatDoor
open Go.RowKit Go Go.Conc
structure SP where
 bx:Nat
 by_:Nat
 ox:Nat→Prop
 oy:Nat→Prop
 sx:R.St
 sy:R.St
def MM (O:Nat→Prop)(L:List SP)(b:Nat):Prop:=O b∨∃(j:Nat) (h:j<L.length),L[j].ox b∨L[j].oy b
structure LW (w:eX)(h0 Wb:Nat)(O:Nat→Prop)(L:List SP)(names:List (eB×List UInt8))(nums:List (eB×Int))(last:Nat):Prop where
 lw:∃av nv tv uv kv,LWx w (MM O L) O Wb av (L.map fun p=>(p.bx,p.by_)) nv tv uv kv names nums last
 px:∀(j:Nat) (h:j<L.length),PS w (MM O L) L[j].ox L[j].bx L[j].sx∧Inv L[j].sx
 py:∀(j:Nat) (h:j<L.length),RS w (MM O L) L[j].oy L[j].by_ L[j].sy∧Inv L[j].sy
 d0:∀(j:Nat) (h:j<L.length) (b:Nat),O b→¬L[j].ox b∧¬L[j].oy b
 d1:∀(j:Nat) (h:j<L.length) (b:Nat),L[j].ox b→¬L[j].oy b
 d2:∀(i j:Nat) (hi:i<L.length) (hj:j<L.length),i≠j→∀b,(L[i].ox b∨L[i].oy b)→¬(L[j].ox b∨L[j].oy b)
 lo:∀b,MM O L b→h0≤b
 lt:∀b,MM O L b→b<w.heap.size
 g:Zp w
 h6:6≤h0
 hs:h0≤w.heap.size
 nb:nums.length≤9*last
theorem PS.smaller {w:eX}{M M' O:Nat→Prop}{B:Nat}{st:R.St}(h:PS w M O B st)(hM:∀b,M' b→M b)(hO:∀b,O b→M' b):PS w M' O B st:=h.kept (zf.refl (fun _=>False) w) (fun _ e=>e.elim) (fun b e=> .inl (hM b e)) hO
def jE:R.St:={cms:=[],brs:=[],packed:=[]}
theorem Inv.no:Inv jE:=⟨by simp[jE],by simp[jE],by simp[jE,zW],by simp[jE],by simp[jE],by simp[jE],by simp[jE],by simp[jE],by simp[jE]⟩
theorem Bf {w:eX}{M:Nat→Prop}{B:Nat}(hb:w.heap[B]? =some (.cells #[.slice none 0 0,.slice none 0 0,.slice none 0 0] 102 (0,0)))(hM:M B):PS w M (fun b=>b=B) B jE:=by
 have hl:B<w.heap.size:=(Array.getElem?_eq_some_iff.1 hb).1;refine⟨.slice none 0 0,.slice none 0 0,[],[],fun b e=>e▸hM,fun b e=>e▸hl,rfl,by simp[sE,hb],by simp[sE,hb],fun o=>by simp[World.frozen?,hb],rfl,ES _ _ _ _,fun g e=>by simp[Value.ownBlock]at e,by simp,by simp,by simp,rfl,ES _ _ _ _,fun g e=>by simp[Value.ownBlock]at e,by simp,by simp,.slice none 0 0,by simp[sE,hb],ES _ _ _ _,fun g e=>by simp[Value.ownBlock]at e⟩
theorem Ji:∀(L:List (R.Cm×eB×eB)) (i:Nat) (h:i<L.length),(YJ L)[i*2]? =some (L[i]'h).2.1
 |p::r,0,_=>by simp[YJ]
 |p::r,i+1,h=>by
  have ih:=Ji r i (by simpa using h);unfold YJ at ih⊢;rw[List.flatMap_cons,List.getElem?_append_right (by simp;omega)];rw[show(i+1)*2- [p.2.1,p.2.2].length=i*2 from by simp;omega];simpa using ih
theorem PSx.tc {w:eX}{M O:Nat→Prop}{B:Nat}{st:R.St}{bv cv:eB}{LB:List BrP}{LCm:List (R.Cm×eB×eB)}(hP:PSx w M O B st bv cv LB LCm):∃g cap,0<st.cms.length→TC (fun b=>b<w.heap.size) B g cap st.cms.length (R.parents st) w:=by
 obtain⟨a,c,hv,h1,h2,h3,h4⟩:=zh hP.crow;have hl:LCm.length=st.cms.length:=by rw[←hP.cms,List.length_map]
 cases a with
 |none=>exact⟨0,0,fun h=>by have:=(h3 rfl).1;omega⟩
 |some ad=>
  obtain⟨g,rfl,_,hg,_,hc⟩:=h4 ad rfl;refine⟨g,c,fun _=>⟨hP.lt B hP.own,hg,by rw[←hl,←hv];exact hP.c1,fun m hm=> ?_⟩⟩;have a0:m<LCm.length:=by omega
  have a1:R.parents st (m+1)=(LCm[m]'a0).1.parents:=by
   have e:(LCm[m]'a0).1=st.cms[m]:=by simp[←hP.cms]
   rw[R.parents,Nat.add_sub_cancel,j0d hm,e];rfl
  have a2:=hP.cpar _ (j0c a0);rw[←a1]at a2;obtain⟨pa,pc,a5,a6,a7,a4⟩:=a2;refine⟨pa,pc,by rw[←a5];exact hc _ _ (Ji LCm m a0),fun j hj=> ?_⟩;obtain⟨b,off,e,hb,_,a3⟩:=a4 (by omega);exact⟨b,off,e,hb,a3 j _ (by simp[hj,List.getD_eq_getElem?_getD])⟩
theorem jC {P:Program}{fn:FuncId}{Q:Exit→Act→eX→Prop}{a:Act}{w:eX}(hP:zH P){ops:Array Oper}{i:Nat}{rest:List Nat}{o:Oper}{f:FuncId}{args:Array Operand}{a2:Array TypeId}{vals:Array eB}{R:eB→eX→Prop}(ho:ops[i]? =some o)(hw:Region.wanted o (yielded ops a.tmps)=true)(a4:o.op= .call {callee:= .value (.func f),args,argTypes:=a2})(hv:args.map a.eval=vals){a1:Func}(hf:P.funcs[f]? =some a1)(a0:(a1.name== "runtime.NumGoroutine")=false)(a3:a1.body.isNone=false)
  (hc:zF P f vals w R)(hn:∀v w',R v w' →qQ P fn ops rest Q (a.put o.dst v) w'):qQ P fn ops (i::rest) Q a w:=
 opsT_call hP ho hw (fun W=>by subst hv;exact run_call_body a4 hf a0 a3) hc hn
section
theorem fx (B:Nat)(st:R.St)(name:List UInt8)(w:eX)(M O:Nat→Prop)(h:PS w M O B st)(hi:Inv st):
  zF sU 38 #[.pointer (some ⟨B,0,none⟩),.string ⟨name.toArray⟩] w fun v w' =>∃hv,v= .tuple #[hv,.int .i64 (xj st name).2]∧w'.ownsRow 0 3 1 hv (xj st name).1.length (Ym (xj st name).1)∧(∀g,hv.ownBlock=some g→w.heap.size≤g)∧ze w w' :=by
 have hP:=xx;obtain⟨bv,cv,LB,LCm,hx⟩:=h;have a0:∀T d,Calls sU 45 #[.pointer (some ⟨B,0,none⟩),.string ⟨name.toArray⟩] (re w T d) fun e w' =>e= .returned (.pointer (Zh LB st name))∧w' =re w T d:=fun T d=>qv (w:=re w T d) ⟨hx.sub,hx.lt,hx.own,hx.c0,hx.c1,hx.fr,hx.brs,hx.row,hx.rowO,fun p hp=>⟨(hx.at_ p hp).c0,(hx.at_ p hp).c1,(hx.at_ p hp).c2,(hx.at_ p hp).fr,(hx.at_ p hp).work⟩,hx.blk,hx.dist,hx.cms,hx.crow,hx.crowO,hx.ctree,hx.cpar,by obtain⟨pv,hp⟩:=hx.pk;exact⟨pv,hp.c2,hp.row,hp.rowO⟩⟩ hi name
 by_cases hf:R.fnd st.brs name<st.brs.length
 ·obtain⟨hl,ha,he,a3,b2⟩:=Zy hx name hf
  have a1:¬R.fndI st.brs name<0:=by rw[R.fndI,if_pos hf];omega
  have HS:Hid (xj st name=(hist (R.parents st) st.cms.length [R.headOf st name],0)):=by show _=_;rw[xj,if_neg a1]
  have c1:=(hx.at_ _ (j0c hl)).c1;rw[←a3]at c1;obtain⟨g,cap,a4⟩:=hx.tc;have a9:=Zr hi name;have a5:=JR hP (w:=w) a4 a9 hi.few (fun m h1 h2 p hp=>by
   have:=BK hi m p hp;have h3:1≤p:=by
    unfold R.parents at hp;rw[j0d (by omega)]at hp;exact(hi.pars (m-1) (by omega) p (by simpa using hp)).1
   omega) (fun m h1 h2=>by
   unfold R.parents;rw[j0d (by omega)];exact hi.two _ (j0c (by omega)))
  rw[ha]at a0;rw[HS.out];generalize(LB[R.fnd st.brs name]'hl).2.1=bb at*;generalize R.headOf st name=hd at*;have a7:=z4 a5;have a2:=z4 a0;clear a5 a0 hx hi he a3 b2 ha a4;refine zL hP MA rfl ?_;simp only[MB,tQ,nM,pC,tR,Nat.reduceSub,Array.replicate_succ,Array.replicate_zero,List.push_toArray,List.append_toArray,List.nil_append,List.cons_append];refine zn hP ?_;refine yt hP ?_;simp only[tQ,nM,pC,tR,lQ,mO,List.range.loop];co_applyP ZB hP rfl (by rfl)
  case hv=>intro W K hK;go_simp;exact hK
  try walk_nrm
  co_applyP ZB hP rfl (by rfl)
  case hv=>intro W K hK;go_simp;exact hK
  try walk_nrm
  refine yU hP ?_;simp only[Exit.then];refine zn hP ?_;refine yt hP ?_;simp only[tQ,nM,pC,tR,lQ,mO,List.range.loop];co_applyP ZB hP rfl (by rfl)
  case hv=>intro W K hK;go_simp;exact hK
  try walk_nrm
  co_applyP ZB hP rfl (by rfl)
  case hv=>intro W K hK;go_simp;exact hK
  try walk_nrm
  refine jC hP rfl (by rfl) rfl (by simp[Act.eval]) Tryz.func45 (by decide) rfl (callsT_lone hP (R:=fun v w' =>v= .pointer (some ⟨bb,0,none⟩)∧∃T d,w' =re w T d) (fun v w' T d ⟨e,T',d',e'⟩=>⟨e,T,d,by rw[e'];rfl⟩) (fun T d=>(a2.out T d).mono fun e w' ⟨h1,h2⟩=>⟨_,h1,rfl,T,d,h2⟩)) ?_;rintro v w' ⟨rfl,T,d,rfl⟩;refine Up ?_ T d;try walk_nrm
  co_applyP ZB hP rfl (by rfl)
  case hv=>intro W K hK;go_simp;exact hK
  try walk_nrm
  refine yU hP ?_;simp only[Exit.then];refine zn hP ?_;refine zn hP ?_;refine yt hP ?_;simp only[tQ,nM,pC,tR,lQ,mO,List.range.loop];co_applyP ZB hP rfl (by rfl)
  case hv=>intro W K hK;go_simp;exact hK
  try walk_nrm
  co_applyP ZB hP rfl (by rfl)
  case hv=>intro W K hK;go_simp;exact hK
  try walk_nrm
  refine yU hP ?_;simp only[Exit.then];refine yR (t:=false) hP (by simp[Act.eval]) ?_;simp only[Bool.false_eq_true,if_false];refine Vf hP ?_;simp only[Exit.then];refine zn hP ?_;refine yt hP ?_;simp only[tQ,nM,pC,tR,lQ,mO,List.range.loop];co_applyP ZB hP rfl (by rfl)
  case hv=>intro W K hK;go_simp;exact hK
  try walk_nrm
  co_applyP ZB hP rfl (by rfl)
  case hv=>intro W K hK;go_simp;exact hK
  try walk_nrm
  co_applyP ZB hP rfl (by rfl)
  case hv=>intro W K hK;go_simp;exact hK
  try walk_nrm
  co_applyP ZB hP rfl (by rfl)
  case hv=>intro W K hK;go_simp;exact hK
  try walk_nrm
  refine O3 hP rfl (by rfl) (fun v w' =>v= .int .i64 (hd:Int)∧∃T d,w' =re w T d) (fun v w' T d ⟨e,T',d',e'⟩=>⟨e,T,d,by rw[e'];rfl⟩) (fun T d=>⟨.int .i64 (hd:Int),re w T d,?_,rfl,T,d,rfl⟩) ?_
  ·have a8 :(re w T d).cell? ⟨bb,1,none⟩=some (.int .i64 (hd:Int)):=c1
   unfold execOp;simp[go_sem,a8,Act.eval]
  rintro v w' ⟨rfl,T',d',rfl⟩;refine Up ?_ T' d';try walk_nrm
  refine jC hP rfl (by rfl) rfl (by simp[Act.eval]) Tryz.func70 (by decide) rfl a7.out ?_;rintro v w' ⟨h1,h2,h3⟩;try walk_nrm
  co_applyP ZB hP rfl (by rfl)
  case hv=>intro W K hK;go_simp;exact hK
  try walk_nrm
  co_applyP ZB hP rfl (by rfl)
  case hv=>intro W K hK;go_simp;exact hK
  try walk_nrm
  refine yU hP ?_;simp only[Exit.then];refine Xj hP ?_;refine⟨rfl,.tuple #[v,.int .i64 0],fun W=> ?_,v,rfl,h1,h2,h3⟩;simp[results,Tryz.results38,go_sem]
 ·have a1:R.fndI st.brs name<0:=by rw[R.fndI,if_neg hf];omega
  have HS:Hid (xj st name=([],5)):=by show _=_;rw[xj,if_pos a1]
  have ha:Zh LB st name=none:=by rw[Zh,if_neg hf]
  rw[ha]at a0;rw[HS.out];refine callsT_lone hP (fun v w' T d ⟨hv,h1,h2,h3,h4⟩=>⟨hv,h1,h2,h3,h4.re T d⟩) (fun T d=> ?_);have a2:=z4 (a0 T d);have a6:Hid (ze w (re w T d)):=⟨rfl,rfl,j0a _,fun _ _=>rfl⟩
  clear a0 hx hi hf a1 ha;generalize re w T d=W at*;go_enter MA,MB;go_wp2_with fail
  refine a2.out.mono ?_;rintro e w1 ⟨rfl,b1⟩;subst b1;go_wp2;go_ret2;exact⟨_,rfl,_,rfl,ES _ _ _ _,fun g e=>by simp[Value.ownBlock]at e,a6.out⟩
end
