import Derived.Test.YtolgebdmffcemaaGreatDoorQ23
import Derived.Test.YtolgebdmffcemaaGreatDoorQ11
import Derived.Test.YtolgebdmffcemaaGreatDoorQ28
set_option linter.all false
set_option maxHeartbeats 20000000
set_option maxRecDepth 1000000
namespace Go.Proofs.YtolgebdmffcemaaGreatDoor
open Go Go.Conc Go.RowKit
theorem Kt:∀(L:List (R.Cm×Value×Value)) (i:Nat) (h:i<L.length),(YN L)[i*2]? =some (L[i]'h).2.1
 |p::r,0,_=>by simp[YN]
 |p::r,i+1,h=>by
  have ih:=Kt r i (by simpa using h);unfold YN at ih⊢;rw[List.flatMap_cons,List.getElem?_append_right (by simp;omega)];rw[show(i+1)*2- [p.2.1,p.2.2].length=i*2 from by simp;omega];simpa using ih
theorem PSx.tc {w:World}{M O:Nat→Prop}{B:Nat}{st:R.St}{bv cv:Value}{LB:List BrP}{a0:List (R.Cm×Value×Value)}(hP:PSx w M O B st bv cv LB a0):∃g cap,0<st.cms.length→TC (fun b=>b<w.heap.size) B g cap st.cms.length (R.parents st) w:=by
 obtain⟨a,c,hv,h1,h2,h3,h4⟩:=za hP.crow;have hl:a0.length=st.cms.length:=by rw[←hP.cms,List.length_map]
 cases a with
 |none=>exact⟨0,0,fun h=>by have:=(h3 rfl).1;omega⟩
 |some ad=>
  obtain⟨g,rfl,_,hg,_,hc⟩:=h4 ad rfl;refine⟨g,c,fun _=>⟨hP.lt B hP.own,hg,by rw[←hl,←hv];exact hP.c1,fun m hm=> ?_⟩⟩;have a1:m<a0.length:=by omega
  have a2:R.parents st (m+1)=(a0[m]'a1).1.parents:=by
   have e:(a0[m]'a1).1=st.cms[m]:=by simp[←hP.cms]
   rw[R.parents,Nat.add_sub_cancel,j0d hm,e];rfl
  have a3:=hP.cpar _ (j0c a1);rw[←a2]at a3;obtain⟨pa,pc,a6,a7,a8,a5⟩:=a3;refine⟨pa,pc,by rw[←a6];exact hc _ _ (Kt a0 m a1),fun j hj=> ?_⟩;obtain⟨b,off,e,hb,_,a4⟩:=a5 (by omega);exact⟨b,off,e,hb,a4 j _ (by simp[hj,List.getD_eq_getElem?_getD])⟩
theorem Yc {P:Program}{fn:FuncId}{Q:Exit→Act→World→Prop}{a:Act}{w:World}(hP:Z0 P){ops:Array Oper}{i:Nat}{rest:List Nat}{o:Oper}{f:FuncId}{args:Array Operand}{a2:Array TypeId}{vals:Array Value}{R:Value→World→Prop}(ho:ops[i]? =some o)(hw:Region.wanted o (yielded ops a.tmps)=true)(a4:o.op= .call {callee:= .value (.func f),args,argTypes:=a2})(hv:args.map a.eval=vals){a1:Func}(hf:P.funcs[f]? =some a1)(a0:(a1.name== "runtime.NumGoroutine")=false)(a3:a1.body.isNone=false)
  (hc:CallsT P f vals w R)(hn:∀v w',R v w' →kx P fn ops rest Q (a.put o.dst v) w'):kx P fn ops (i::rest) Q a w:=
 opsT_call hP ho hw (fun W=>by subst hv;exact run_call_body a4 hf a0 a3) hc hn
section
theorem ov (B:Nat)(st:R.St)(name:List UInt8)(w:World)(M O:Nat→Prop)(h:PS w M O B st)(hi:Inv st):
  CallsT Tryz.prog 38 #[.pointer (some ⟨B,0,none⟩),.string ⟨name.toArray⟩] w fun v w' =>∃hv,v= .tuple #[hv,.int .i64 (yh st name).2]∧w'.ownsRow 0 3 1 hv (yh st name).1.length (yt (yh st name).1)∧(∀g,hv.ownBlock=some g→w.heap.size≤g)∧QI w w' :=by
 have hP:=jb;obtain⟨bv,cv,LB,b2,hx⟩:=h;have a0:∀T d,Calls Tryz.prog 45 #[.pointer (some ⟨B,0,none⟩),.string ⟨name.toArray⟩] (re w T d) fun e w' =>e= .returned (.pointer (ZH LB st name))∧w' =re w T d:=fun T d=>Vu (w:=re w T d) ⟨hx.sub,hx.lt,hx.own,hx.c0,hx.c1,hx.fr,hx.brs,hx.row,hx.rowO,fun p hp=>⟨(hx.at_ p hp).c0,(hx.at_ p hp).c1,(hx.at_ p hp).c2,(hx.at_ p hp).fr,(hx.at_ p hp).work⟩,hx.blk,hx.dist,hx.cms,hx.crow,hx.crowO,hx.ctree,hx.cpar,by obtain⟨pv,hp⟩:=hx.pk;exact⟨pv,hp.c2,hp.row,hp.rowO⟩⟩ hi name
 by_cases hf:R.fnd st.brs name<st.brs.length
 ·obtain⟨hl,ha,he,a3,b1⟩:=yU hx name hf
  have a1:¬R.fndI st.brs name<0:=by rw[R.fndI,if_pos hf];omega
  have HS:Hid (yh st name=(yp (R.parents st) st.cms.length [R.headOf st name],0)):=by show _=_;rw[yh,if_neg a1]
  have c1:=(hx.at_ _ (j0c hl)).c1;rw[←a3]at c1;obtain⟨g,cap,a4⟩:=hx.tc;have a9:=Qc hi name;have a5:=oq hP (w:=w) a4 a9 hi.few (fun m h1 h2 p hp=>by
   have:=OQ hi m p hp;have h3:1≤p:=by
    unfold R.parents at hp;rw[j0d (by omega)]at hp;exact(hi.pars (m-1) (by omega) p (by simpa using hp)).1
   omega) (fun m h1 h2=>by
   unfold R.parents;rw[j0d (by omega)];exact hi.two _ (j0c (by omega)))
  rw[ha]at a0;rw[HS.out];generalize(LB[R.fnd st.brs name]'hl).2.1=bb at*;generalize R.headOf st name=hd at*;have a7:=zd a5;have a2:=zd a0;clear a5 a0 hx hi he a3 b1 ha a4;refine yE hP Tryz.func38 rfl ?_;simp only[Tryz.ntmps38,List.size_toArray,List.length_cons,List.length_nil,Nat.reduceAdd,Nat.reduceSub,Array.replicate_succ,Array.replicate_zero,List.push_toArray,List.append_toArray,List.nil_append,List.cons_append];refine ZL hP ?_;refine Zw hP ?_;simp only[List.size_toArray,List.length_cons,List.length_nil,Nat.reduceAdd,Nat.zero_add,List.range,List.range.loop];co_applyP zH hP rfl (by rfl)
  case hv=>intro W K hK;go_simp;exact hK
  try walk_nrm
  co_applyP zH hP rfl (by rfl)
  case hv=>intro W K hK;go_simp;exact hK
  try walk_nrm
  refine yz hP ?_;simp only[Exit.then];refine ZL hP ?_;refine Zw hP ?_;simp only[List.size_toArray,List.length_cons,List.length_nil,Nat.reduceAdd,Nat.zero_add,List.range,List.range.loop];co_applyP zH hP rfl (by rfl)
  case hv=>intro W K hK;go_simp;exact hK
  try walk_nrm
  co_applyP zH hP rfl (by rfl)
  case hv=>intro W K hK;go_simp;exact hK
  try walk_nrm
  refine Yc hP rfl (by rfl) rfl (by simp[Act.eval]) Tryz.func45 (by decide) rfl (q_ hP (R:=fun v w' =>v= .pointer (some ⟨bb,0,none⟩)∧∃T d,w' =re w T d) (fun v w' T d ⟨e,T',d',e'⟩=>⟨e,T,d,by rw[e'];rfl⟩) (fun T d=>(a2.out T d).mono fun e w' ⟨h1,h2⟩=>⟨_,h1,rfl,T,d,h2⟩)) ?_;rintro v w' ⟨rfl,T,d,rfl⟩;refine xT ?_ T d;try walk_nrm
  co_applyP zH hP rfl (by rfl)
  case hv=>intro W K hK;go_simp;exact hK
  try walk_nrm
  refine yz hP ?_;simp only[Exit.then];refine ZL hP ?_;refine ZL hP ?_;refine Zw hP ?_;simp only[List.size_toArray,List.length_cons,List.length_nil,Nat.reduceAdd,Nat.zero_add,List.range,List.range.loop];co_applyP zH hP rfl (by rfl)
  case hv=>intro W K hK;go_simp;exact hK
  try walk_nrm
  co_applyP zH hP rfl (by rfl)
  case hv=>intro W K hK;go_simp;exact hK
  try walk_nrm
  refine yz hP ?_;simp only[Exit.then];refine xe (t:=false) hP (by simp[Act.eval]) ?_;simp only[Bool.false_eq_true,if_false];refine kG hP ?_;simp only[Exit.then];refine ZL hP ?_;refine Zw hP ?_;simp only[List.size_toArray,List.length_cons,List.length_nil,Nat.reduceAdd,Nat.zero_add,List.range,List.range.loop];co_applyP zH hP rfl (by rfl)
  case hv=>intro W K hK;go_simp;exact hK
  try walk_nrm
  co_applyP zH hP rfl (by rfl)
  case hv=>intro W K hK;go_simp;exact hK
  try walk_nrm
  co_applyP zH hP rfl (by rfl)
  case hv=>intro W K hK;go_simp;exact hK
  try walk_nrm
  co_applyP zH hP rfl (by rfl)
  case hv=>intro W K hK;go_simp;exact hK
  try walk_nrm
  refine xo hP rfl (by rfl) (fun v w' =>v= .int .i64 (hd:Int)∧∃T d,w' =re w T d) (fun v w' T d ⟨e,T',d',e'⟩=>⟨e,T,d,by rw[e'];rfl⟩) (fun T d=>⟨.int .i64 (hd:Int),re w T d,?_,rfl,T,d,rfl⟩) ?_
  ·have a8 :(re w T d).cell? ⟨bb,1,none⟩=some (.int .i64 (hd:Int)):=c1
   unfold execOp;simp[go_sem,a8,Act.eval]
  rintro v w' ⟨rfl,T',d',rfl⟩;refine xT ?_ T' d';try walk_nrm
  refine Yc hP rfl (by rfl) rfl (by simp[Act.eval]) Tryz.func70 (by decide) rfl a7.out ?_;rintro v w' ⟨h1,h2,h3⟩;try walk_nrm
  co_applyP zH hP rfl (by rfl)
  case hv=>intro W K hK;go_simp;exact hK
  try walk_nrm
  co_applyP zH hP rfl (by rfl)
  case hv=>intro W K hK;go_simp;exact hK
  try walk_nrm
  refine yz hP ?_;simp only[Exit.then];refine jI hP ?_;refine⟨rfl,.tuple #[v,.int .i64 0],fun W=> ?_,v,rfl,h1,h2,h3⟩;simp[results,Tryz.results38,go_sem]
 ·have a1:R.fndI st.brs name<0:=by rw[R.fndI,if_neg hf];omega
  have HS:Hid (yh st name=([],5)):=by show _=_;rw[yh,if_pos a1]
  have ha:ZH LB st name=none:=by rw[ZH,if_neg hf]
  rw[ha]at a0;rw[HS.out];refine q_ hP (fun v w' T d ⟨hv,h1,h2,h3,h4⟩=>⟨hv,h1,h2,h3,h4.re T d⟩) (fun T d=> ?_);have a2:=zd (a0 T d);have a6:Hid (QI w (re w T d)):=⟨rfl,rfl,j0a _,fun _ _=>rfl⟩
  clear a0 hx hi hf a1 ha;generalize re w T d=W at*;go_enter Tryz.func38,Tryz.ntmps38;go_wp2_with fail
  refine a2.out.mono ?_;rintro e w1 ⟨rfl,b0⟩;subst b0;go_wp2;go_ret2;exact⟨_,rfl,_,rfl,World.ownsRow_nil _ _ _ _,fun g e=>by simp[Value.ownBlock]at e,a6.out⟩
end
