/- THE CARD of graftlaw.Commits, the second form: for every script that, with all its texts, is of bulk at most 1048576, the call returns true and leaves the script as it was (the tables of Go's library laid as the program's text lays them). -/
import Derived.ProofKit
import Derived.OpenShut
import Derived.Deep.Slices
import Derived.WideKeyArgs
import Derived.Lib.LaidTab
import Derived.Stop.LaidErr
import Derived.Shelf.Strings.SplitShaped
import Derived.Test.YtolgebdmffcemaaGreatDoorQ33
import Derived.Conc.Holds
import Derived.Deep.DeepHandedRow
import Derived.Test.YtolgebdmffcemaaGreatDoorCards
import Derived.Test.YtolgebdmffcemaaGreatDoorTie
import Derived.LaidLaws
set_option linter.all false
set_option maxHeartbeats 20000000
set_option maxRecDepth 1000000
namespace Go.Proofs.YtolgebdmffcemaaGreatDoor
open Go.ChangeShapes Go.WideShapes Go.ChangeAt Go.RowKit Go Go.Conc
section
variable {H:Type}{enc:TypeId×Value→H}
theorem xF (d:DataW H):1≤Rows.uptoBulk d:=by
 cases d with
 |lit l=>cases l<;>simp[Rows.uptoBulk]
 |nil=>simp[Rows.uptoBulk]
 |ptr d=>simp[Rows.uptoBulk]
 |slice a1 a3=>simp[Rows.uptoBulk]
 |agg a2=>simp[Rows.uptoBulk]
 |iface t d=>simp[Rows.uptoBulk]
 |map a0=>simp[Rows.uptoBulk]
 |held h=>simp[Rows.uptoBulk]
theorem UD {l:List (DataW H)}(h:∀d∈l,8≤Rows.uptoBulk d):8*l.length≤Rows.uptoBulkAll l:=by
 induction l with
 |nil=>simp
 |cons x r ih=>
  have h1:=h x (by simp);have h2:=ih fun d hd=>h d (by simp[hd])
  simp only[Rows.uptoBulkAll,List.length_cons];omega
theorem uI:Tryz.prog.cellsOf 73=7:=by kernel_rfl
theorem O9:Tryz.prog.cellsOf 3=1:=by kernel_rfl
theorem Jc:Tryz.prog.cellsOf 9=1:=by kernel_rfl
theorem GC {α:Type}(l:List α)(h:l.length=7):∃a b c d e f g,l=[a,b,c,d,e,f,g]:=by
 rcases l with _|⟨a,l⟩
 ·simp at h
 rcases l with _|⟨b,l⟩
 ·simp at h
 rcases l with _|⟨c,l⟩
 ·simp at h
 rcases l with _|⟨d,l⟩
 ·simp at h
 rcases l with _|⟨e,l⟩
 ·simp at h
 rcases l with _|⟨f,l⟩
 ·simp at h
 rcases l with _|⟨g,l⟩
 ·simp at h
 rcases l with _|⟨x,l⟩
 ·exact⟨a,b,c,d,e,f,g,rfl⟩
 ·simp at h
theorem KU {n:Int}(h:(Lit.int .i64 n).wf=true): -9223372036854775808≤n∧n≤9223372036854775807:=by
 simpa[Lit.wf,IntKind.min,IntKind.max,IntKind.bits,IntKind.signed]using h
theorem Gc {w:World}{sp:Nat→Bool}{hd:Bool}{n:Nat}{cs:List Value}{x:DataW H×List MemPlace}(h:DataW.trod enc Tryz.prog w 0 sp hd n 73 cs=some x):
  ∃o:OpL,cs=o.cells∧o.ok∧8≤Rows.uptoBulk x.1:=by
 obtain⟨xs,m,rfl,rfl,hl,a7,hf⟩:=DataW.trod_struct Tryz.underlying73 h;clear h;rw[uI]at hl;obtain⟨c0,c1,c2,c3,c4,c5,c6,rfl⟩:=GC cs hl;obtain⟨x0,x1,x2,x3,x4,x5,x6,rfl⟩:=GC xs a7;have h0:DataW.trod enc Tryz.prog w 0 sp hd m 3 (([c0,c1,c2,c3,c4,c5,c6].drop 0).take (Tryz.prog.cellsOf 3))=some x0:=hf 0 _ rfl;have h1:DataW.trod enc Tryz.prog w 0 sp hd m 3 (([c0,c1,c2,c3,c4,c5,c6].drop 1).take (Tryz.prog.cellsOf 3))=some x1:=hf 1 _ rfl;have h2:DataW.trod enc Tryz.prog w 0 sp hd m 3 (([c0,c1,c2,c3,c4,c5,c6].drop 2).take (Tryz.prog.cellsOf 3))=some x2:=hf 2 _ rfl;have h3:DataW.trod enc Tryz.prog w 0 sp hd m 3 (([c0,c1,c2,c3,c4,c5,c6].drop 3).take (Tryz.prog.cellsOf 3))=some x3:=hf 3 _ rfl;have h4:DataW.trod enc Tryz.prog w 0 sp hd m 9 (([c0,c1,c2,c3,c4,c5,c6].drop 4).take (Tryz.prog.cellsOf 9))=some x4:=hf 4 _ rfl;have h5:DataW.trod enc Tryz.prog w 0 sp hd m 9 (([c0,c1,c2,c3,c4,c5,c6].drop 5).take (Tryz.prog.cellsOf 9))=some x5:=hf 5 _ rfl;have h6:DataW.trod enc Tryz.prog w 0 sp hd m 9 (([c0,c1,c2,c3,c4,c5,c6].drop 6).take (Tryz.prog.cellsOf 9))=some x6:=hf 6 _ rfl;clear hf;rw[O9]at h0 h1 h2 h3;rw[Jc]at h4 h5 h6;obtain⟨n0,e0, -,k0⟩:=DataW.trod_int Tryz.underlying3 h0;obtain⟨n1,e1, -,k1⟩:=DataW.trod_int Tryz.underlying3 h1;obtain⟨n2,e2, -,k2⟩:=DataW.trod_int Tryz.underlying3 h2;obtain⟨n3,e3, -,k3⟩:=DataW.trod_int Tryz.underlying3 h3;obtain⟨s4,e4, -,k4⟩:=DataW.trod_string Tryz.underlying9 h4;obtain⟨s5,e5, -,k5⟩:=DataW.trod_string Tryz.underlying9 h5;obtain⟨s6,e6, -,k6⟩:=DataW.trod_string Tryz.underlying9 h6;simp only[List.drop_zero,List.drop_succ_cons,List.take_succ_cons,List.take_zero,List.cons.injEq,and_true]at e0 e1 e2 e3 e4 e5 e6;subst e0 e1 e2 e3 e4 e5 e6;refine⟨⟨n0,n1,n2,n3,s4.data.toList,s5.data.toList,s6.data.toList⟩,?_,?_,?_⟩
 ·simp[OpL.cells,opC]
 ·have q1:=KU k1
  have q2:=KU k2;exact⟨q1.2,q1.1,q2.2,q2.1,by simpa using k4,by simpa using k5,by simpa using k6⟩
 ·have a0:=xF x0.1
  have a1:=xF x1.1;have a2:=xF x2.1;have a3:=xF x3.1;have a4:=xF x4.1;have a5:=xF x5.1;have a6:=xF x6.1;simp only[Rows.uptoBulk,Rows.uptoBulkAll,List.map];omega
theorem KS {w:World}{a:Addr}{v:Value}(h:w.cell? a=some v):a.block<w.heap.size:=by
 rcases Nat.lt_or_ge a.block w.heap.size with h' |h'
 ·exact h'
 ·simp[World.cell?,Array.getElem?_eq_none h']at h
theorem KR (l:List OpL):(qZ l).length=7*l.length:=by
 induction l with
 |nil=>rfl
 |cons o l ih=>
  show(o.cells++qZ l).length=_;rw[List.length_append,ih];simp[OpL.cells,opC];omega
theorem JJ {w:World}{base:Nat}{v:Value}{d:DataW H}{ps:List MemPlace}(hv:Value.okWide Tryz.prog w .any base 22 v)(h:DataW.Trod enc Tryz.prog w 0 (fun _=>true) true 22 v d ps){N:Nat}(hb:Rows.uptoBulk d≤N):
  ∃a0:List OpL,8*a0.length≤N∧(∀o∈a0,o.ok)∧Rd w (fun _=>False) v a0.length (qZ a0):=by
 obtain⟨a7,h⟩:=h;obtain⟨a,a1,cap,rfl⟩:=okWide_slice Tryz.underlying22 hv;clear hv;rcases Deep.open_slice Tryz.underlying22 h with⟨h1,h2⟩|⟨a',a4,a3,m,n,D,Pl,h1, -,hl,hc,hm,hx,he⟩
 ·obtain⟨rfl,rfl,rfl⟩:a=none∧a1=0∧cap=0:=by simpa[Value.cells]using h1
  exact⟨[],by simp,by simp,none,0,rfl,j0a _,Nat.zero_le _,fun h=>absurd h (Nat.lt_irrefl _)⟩
 ·obtain⟨rfl,rfl,rfl⟩:a=some a' ∧a1=a4 ∧cap=a3 :=by simpa[Value.cells]using h1
  obtain rfl:m=cap:=by simpa using hm
  obtain⟨a6,b0⟩:=Prod.mk.inj hx;clear hx b0 h h1 hm;rw[a6]at hb;clear a6;rw[uI]at he;have b1:Inhabited OpL:=⟨⟨0,0,0,0,[],[],[]⟩⟩
  obtain⟨f,hf⟩:=Deep.choose_lt (α:=OpL) (n:=m) (p:=fun i o=>w.cells? 0 (a'.add (i*7)) 7=some o.cells∧o.ok∧8≤Rows.uptoBulk (D i)) (fun i hi=>by
   obtain⟨cs,h1,h2⟩:=he i hi;obtain⟨o,rfl,h3,h4⟩:=Gc h2;exact⟨o,h1,h3,h4⟩)
  have a9:8*a1≤N:=by
   have h1:=UD (l:=(List.range a1).map D) (fun d hd=>by
    obtain⟨i,hi,rfl⟩:=List.mem_map.1 hd;exact(hf i (j0b (List.mem_range.1 hi) hl)).2.2)
   rw[List.length_map,List.length_range]at h1;simp only[Rows.uptoBulk]at hb;omega
  refine⟨(List.range a1).map f,by simp;omega,fun o ho=> ?_,some a',m,by simp,by simpa using hl,hc,fun h0=> ?_⟩
  ·obtain⟨i,hi,rfl⟩:=List.mem_map.1 ho
   exact(hf i (j0b (List.mem_range.1 hi) hl)).2.1
  ·have a8 :0<a1:=by simpa using h0
   have a2:∀i,i<a1→∀j,j<7→w.cell? ((a'.add (i*7)).add j)=(f i).cells[j]? :=fun i hi=>(World.cells?_some (hf i (j0b hi hl)).1).2.2
   obtain⟨b,off,a5⟩:=a';have g0:=a2 0 a8 0 (by omega);have g1:(f 0).cells[0]? =some (.int .i64 (f 0).k):=rfl;rw[g1]at g0;obtain rfl:a5=none:=by simpa[Addr.add]using World.cell?_spot g0
   refine⟨b,off,rfl,?_,id,fun j u hu=> ?_⟩
   ·exact KS g0
   ·have hj:j<7*a1:=by
     have:=(List.getElem?_eq_some_iff.1 hu).1;rw[KR,List.length_map,List.length_range]at this;exact this
    have h1:=a2 (j/7) (by omega) (j % 7) (by omega);rw[Deep.add_add,show j/7*7+j % 7=j from by omega]at h1;rw[add_plain]at h1;rw[h1,←hu];have h2:=Vz ((List.range a1).map f) (j/7) (j % 7) (by simp;omega) (by omega);rw[show j/7*7+j % 7=j from by omega]at h2;rw[h2];simp
end
theorem O7:Tryz.prog.cellsOf 278=1:=by kernel_rfl
theorem O8:Tryz.prog.cellsOf 298=20:=by kernel_rfl
theorem KN:(Tryz.prog.globals[1]?).map (·.type)=some 298:=by kernel_rfl
theorem jo:Tryz.prog.globalNamed "math/bits.deBruijn64tab" =some 7:=by kernel_rfl
theorem jg {W:World}{l:List (String×DataW Unit)}(h:laidMetH Tryz.prog l W)(hl:(l.filter fun x=>x.2.handleName?.isSome)=[]):laidMet Tryz.prog l W:=by
 unfold laidMetH at h;rw[hl]at h;exact h
theorem Gk {W:World}(h:laidMetH Tryz.prog Rows.valuesUptoRow.laid W)(hs:W.ShapedOpen Tryz.prog):Y8 W:=by
 refine⟨Tryz.laysM146.s1_3 W hs,?_,?_⟩
 ·have h1:=(jg h (by kernel_rfl)).tail.tail
  exact Lib.tabIs_of_head (zs:=Lib.pow10Tab) ub KN Tryz.underlying298 Tryz.underlying278 O7 O8 h1
 ·have h1:=jg h (by kernel_rfl)
  obtain⟨ps,⟨_,_,_,_,_,_,_,_,_,_,⟨g,t,cs,a0,p,q,hg,ht,hv,_,_,_⟩,_⟩,_⟩:=h1;obtain rfl:(7:Nat)=g:=Option.some.inj (jo.symm.trans hg);simp only[World.var?,jo,Option.bind_some]at hv;rcases Nat.lt_or_ge 7 W.heap.size with h' |h'
  ·omega
  ·rw[Array.getElem?_eq_none h']at hv
   cases hv
theorem jn {P:Program}{Post a0 :Value→World→Prop}{m:Machine}{o:Outcome}{w' :World}{t' :Trace}(h:Conc.Good P Post m o w' t')(hp:∀v,Post v w' →a0 v w'):Conc.Good P a0 m o w' t' :=
 h.elim fun v x=>⟨v,x.1,hp v x.2.1,x.2.2⟩
section
variable {H:Type}{enc:TypeId×Value→H}
theorem Xb {a:Assume}{C:Checked}{os:Os}{f:FuncId}{fn:Func}{s:OpenSpec}{F:Stop.Interp}{a5:List PathCond}{apart a6 a1 a4:Bool}{a7:List (String×DataW Unit)}
  (own:ownKnob C.prog.godebug=none)(a2:os.Started)(b4:C.prog.funcs[f]? =some fn)
  (a3:∃(w:World) (tape:Tape) (i:Input),w.os=os∧(w.forCall tape i).Shaped C.prog∧i.vars=[]∧Input.okWide C.prog (w.forCall tape i) .any w.heap.size f i∧
   s.preRow enc C.prog fn a5 apart a7 (w.forCall tape i).memory i.args∧a.holds C.prog (lone (Frame.enter C.prog f i.args .normal) [] (w.forCall tape i)))
  (b2:∀(W:World) (base:Nat) (args:Array Value) (ds gs:List (DataW H)) (a0:List MemPlace),
   (∀(j:Nat) t v,fn.params[j]? =some t→args[j]? =some v→Value.okWide C.prog W .any base t v)→
   DataW.Whole enc C.prog fn.params.toList s.vars apart W args.toList ds gs a0→
   (∀k,s.cond=some k→k H (ds++gs)=true)→
   laidMetH C.prog a7 W→
   W.ShapedOpen C.prog→
   ∃M last o w' t',runNT C.prog (M+1) (solo (G (Frame.enter C.prog f args .normal) []) W) #[]=(.ended o w',t')∧runN C.prog M (solo (G (Frame.enter C.prog f args .normal) []) W)= .next last∧
    step C.prog last= .ended o w' ∧Conc.Good C.prog (fun v W' =>(s.at F).post enc C.prog fn apart a6 a1 a4 W args v W') last o w' t'):
  ReturnsInLeavingWide a C os f .any (s.preRow enc C.prog fn a5 apart a7) ((s.at F).post enc C.prog fn apart a6 a1 a4):=by
 refine returnsInLeavingWide_of_good own a2 a3 ?_;intro w tape i _ b6 _ b5 b0 a9;obtain⟨_,_,_,b3,a8,_,_,_,_,b1⟩:=b5;have e:b3 =fn:=Option.some.inj (a8.symm.trans b4);subst e;obtain⟨⟨hp,hl⟩,hz⟩:=b0;obtain⟨ds,gs,a0,hw,hc,hk⟩:=OpenSpec.pre_parts hp;have b7 :=DataW.Whole.of_heap (w' :=w.forCall tape i) (by rfl) hw;obtain⟨M,last,o,w',t',h1,h2,h3,h4⟩:=b2 (w.forCall tape i) w.heap.size i.args ds gs a0 b1 b7 hk (hl.of_heap (by rfl)) b6;exact⟨M,last,o,w',t',h1,h2,h3,jn h4 fun v hp=>ChangeSpec.post_blind hp⟩
end
theorem holds_of_cond_leaving {p:Pinned}{s:OpenSpec}{c:OpenClaim}(f:FuncId)(fn:Func)
  (hn:c.program=p.name)(hs:c.sum=p.sum)(c7:c.spec=s.name)
  (a0:c.start= .entering)(a2:c.outside=[])(b7:c.inits=[])(c8:c.under=none)(b6:c.initsInPlace=[]∧c.initsUnfollowed=false∧c.initsRecurse=false∧c.initsNamed=[]∧c.initsPassed=[])(b2:c.noBlocks=false)(b8:c.leaving=true)(a6:c.followed=none)(a7:c.narrowed=s.cond.isSome)(a3:c.still=false)
  (b5:p.checked.prog.funcNamed c.func=some f)(hf:p.checked.prog.funcs[f]? =some fn)
  (a1:joinedFacts p.checked.prog f fn s.bare c=true)
  (a4:fn.isInstance p.checked.prog c.origin c.targs)(a5:fn.isWrapper p.checked.prog c.wrapper c.mainSum)
  (h:∀os:Os,os.Started→∀(H:Type) (enc:TypeId×Value→H),(∀a b,enc a=enc b→a=b)→∀F:Stop.Interp,
   ReturnsInLeavingWide c.assume p.checked os f .any (c.pre enc p.checked.prog fn s) ((s.at F).post enc p.checked.prog fn c.apart c.fresh c.handsOn c.again)):c.holds p s:=by
 simp only[joinedFacts,Bool.and_eq_true,beq_iff_eq,Array.all_eq_true_iff_forall_mem,List.all_eq_true,decide_eq_true_eq]at a1;obtain⟨⟨⟨⟨⟨⟨⟨⟨⟨⟨⟨⟨⟨⟨⟨⟨⟨⟨⟨⟨⟨⟨⟨⟨⟨⟨⟨⟨⟨⟨⟨k1,k2⟩,k3⟩,k4⟩,k5⟩,k6⟩,k7⟩,k8⟩,k9⟩,d3⟩,d4⟩,d5⟩,d6⟩,d7⟩,d8⟩,d9⟩,e5⟩,a8⟩,e6⟩,e7⟩,e8⟩,e9⟩,f0⟩,b3⟩,a9⟩,b4⟩,b0⟩,b1⟩,f3⟩,f4⟩,f5⟩,f6⟩:=a1;have hq:∀os:Os,Stop.quiet p.checked.prog os:=fun os k hk=>by rw[k9]at hk;cases hk
 refine⟨k1,hn,hs,c7,k2,k3,by unfold OpenClaim.startFits;rw[a0];exact b4,by unfold OpenClaim.startTold;rw[a0];exact⟨b7,c8,b6⟩,f,fn,b5,hf,⟨k4,e7⟩,(fun hb=>by rw[b2]at hb;cases hb),by unfold OpenClaim.namedList;rw[a6];exact k5,a4,a5,
  k6.trans k7.symm,⟨k8.trans k9.symm,by unfold Program.envWorded;rw[k9];rfl,a9⟩,d3,d4,d5,d6,d7,⟨d8,f5,f6⟩,⟨d9,e8⟩,⟨e5,e9,f3,f4⟩,⟨f0,b0,b1,a8⟩,(by rw[a2,a7];cases c6:c.shortTexts with|none=>simp|some _=>rw[c6]at b3;cases b3),fun n b9 =>varReadable_some (e6 n b9),
  ⟨_,by unfold OpenClaim.world;rw[a2,a0];exact WideRow.started_initial,hq _⟩,[],by unfold OpenClaim.lists;rw[a6],fun os st _ H enc c9=> ?_⟩
 have st' :os.Started:=by unfold OpenClaim.world at st;rw[a2,a0]at st;exact st
 rw[OpenClaim.post_not_still a3];unfold OpenClaim.form;rw[a0,k6];intro F;have e1:c.okInput=Input.okWide:=by unfold OpenClaim.okInput;rw[b2]
 have e2:c.atReturn p.checked.prog=leavingAtReturn p.checked.prog:=by unfold OpenClaim.atReturn;rw[b8]
 have e3:c.always p.checked.prog []=nothingAlways:=by unfold OpenClaim.always;rw[a6]
 have e4:s.post enc p.checked.prog fn F c.outside c.apart c.fresh c.handsOn c.again=(s.at F).post enc p.checked.prog fn c.apart c.fresh c.handsOn c.again:=by rw[a2];rfl
 rw[e1,e2,e3];show ReturnsInOpen _ _ _ _ _ _ _ _ (s.post enc p.checked.prog fn F c.outside c.apart c.fresh c.handsOn c.again) _ _;rw[e4];exact h os st' H enc c9 F b4
theorem K8 {W W' :World}(h:ZT W.heap.size W W')(a0:MemPlace→Prop):W.keptBut W' a0:=by
 refine⟨h.os,h.output,fun i hi=> ?_⟩;rw[h.block i hi]
 cases W.heap[i]? with
 |none=>rfl
 |some o=>cases o<;>first|exact⟨rfl,rfl,rfl,fun _ _=>rfl⟩|exact Or.inr ⟨rfl,rfl⟩|rfl
theorem KB {W W' :World}(h:ZT W.heap.size W W'){p:MemPlace}(hp:p.block<W.heap.size):W.sameAt W' p:=by
 have h1:=h.block p.block hp
 cases p<;>simp only[World.sameAt,MemPlace.block,World.cell?]at h1⊢<;>simp[h1]
theorem kq:laidOutB Tryz.prog=true:=by kernel_rfl
theorem XQ:Tryz.prog.readableRec 22=true:=by kernel_rfl
theorem Va:22<Tryz.prog.types.size:=of_decide_eq_true (by kernel_rfl)
theorem jQ (H:Type)(enc:TypeId×Value→H)(W:World)(base:Nat)(args:Array Value)(ds gs:List (DataW H))(a0:List MemPlace)
  (a2:∀(j:Nat) t v,Tryz.f4.params[j]? =some t→args[j]? =some v→Value.okWide Tryz.prog W .any base t v)
  (hW:DataW.Whole enc Tryz.prog Tryz.f4.params.toList Rows.commitsSpec.vars false W args.toList ds gs a0)(hk:Rows.uptoSmall H (ds++gs)=true)
  (hL:laidMetH Tryz.prog Rows.commitsUptoRow.laid W)(hS:W.ShapedOpen Tryz.prog):
  ∃M last o w' t',runNT Tryz.prog (M+1) (solo (G (Frame.enter Tryz.prog 4 args .normal) []) W) #[]=(.ended o w',t')∧runN Tryz.prog M (solo (G (Frame.enter Tryz.prog 4 args .normal) []) W)= .next last∧
   step Tryz.prog last= .ended o w' ∧Conc.Good Tryz.prog (fun v W' =>Rows.commitsSpec.post enc Tryz.prog Tryz.f4 false true false false W args v W') last o w' t' :=by
 have a3 :=hW;obtain⟨p,q,a4,hV,rfl,b0,b1⟩:=hW;have hA:DataW.TrodAll enc Tryz.prog W 0 (fun _=>true) true Tryz.f4.params.toList args.toList ds p:=a4;rw[Tryz.params4]at hA a2;obtain⟨v0,b2,d0,a9,p0,q0,a5,rfl,rfl,h0,r0⟩:=trodAll_cons hA;obtain⟨rfl,rfl,rfl⟩:=trodAll_nil r0;obtain rfl:args= #[v0]:=by cases args;simp_all
 obtain⟨rfl,rfl⟩:=trodVars_none hV;clear a4;simp only[List.append_nil]at a3 hk;have hb:=of_decide_eq_true hk;simp only[Rows.uptoBulkAll,Nat.add_zero]at hb;obtain⟨a1,hn,a8,a7⟩:=JJ (a2 0 22 v0 rfl rfl) h0 hb;obtain⟨M,last,o,w',t',h1,h2,h3,h4⟩:=Up a1 v0 W (Gk hL hS) a7 (by omega) a8;refine⟨M,last,o,w',t',h1,h2,h3,jn h4 ?_⟩;rintro v ⟨rfl,hg⟩;have a6:∀x∈p0,x.block<W.heap.size:=fun x hx=>a3.lt x (by simpa using hx)
 refine⟨[d0],[],p0,[],p0,[],by simpa using a3,trodAll_cons_mk (shut_bool Tryz.underlying4 _) trodAll_mk0,?_,rfl,K8 hg _,fun h=>by cases h⟩;exact⟨p0,[],Go.WideElems.Trod_stays kq XQ Va h0 (fun x hx=>KB hg (a6 x hx)) (fun x hx=>by simpa using a6 x hx),rfl,(List.append_nil _).symm⟩
def fU:DataW Unit→List Value
 | .lit (.int k z)=> [.int k z]
 |_=> []
def fT:DataW Unit→List Value
 | .agg l=>l.flatMap fU
 |d=>fU d
def Fd:DataW Unit→Array Value
 | .agg l=>(l.flatMap fT).toArray
 |d=>(fT d).toArray
def Xz (d:DataW Unit):Obj→Obj
 | .cells _ t frozen=> .cells (Fd d) t frozen
 |o=>o
def ut (b:Nat):Obj→Obj
 | .cells _ t frozen=> .cells #[.iface 323 (.pointer (some ⟨b,0,none⟩))] t frozen
 |o=>o
theorem Uo (os:Os):∃w0:World,w0.os=os∧(w0.forCall (fun _ _=>0) ⟨#[],#[.slice none 0 0],[]⟩).variablesB Tryz.checked.prog=true∧
  ((w0.forCall (fun _ _=>0) ⟨#[],#[.slice none 0 0],[]⟩).heap.toList.drop Tryz.checked.prog.globals.size).take ((begin Tryz.checked.prog (fun _ _=>0) default).world.heap.size-Tryz.checked.prog.globals.size)=
   (begin Tryz.checked.prog (fun _ _=>0) default).world.heap.toList.drop Tryz.checked.prog.globals.size∧
  Input.okWideB Tryz.checked.prog (w0.forCall (fun _ _=>0) ⟨#[],#[.slice none 0 0],[]⟩) 4 ⟨#[],#[.slice none 0 0],[]⟩=true∧
  laidMet Tryz.prog Rows.commitsUptoRow.laid (w0.forCall (fun _ _=>0) ⟨#[],#[.slice none 0 0],[]⟩).memory:=
 ⟨{World.holding Tryz.prog os ⟨#[],#[],[]⟩with heap:=(((((((((World.holding Tryz.prog os ⟨#[],#[],[]⟩).heap.modify 1 (Xz Rows.laid_internal_strconv_uint64pow10)).modify 2 (Xz Rows.laid_unicode_utf8_first)).modify 3 (Xz Rows.laid_unicode_utf8_acceptRanges)).modify 4 (ut 13)).modify 5 (ut 14)).modify 6 (Xz Rows.laid_math_bits_deBruijn32tab)).modify 7 (Xz Rows.laid_math_bits_deBruijn64tab)).push (.cells #[.string ⟨#[105,110,118,97,108,105,100,32,115,121,110,116,97,120]⟩] 325 (0,0))).push (.cells #[.string ⟨#[118,97,108,117,101,32,111,117,116,32,111,102,32,114,97,110,103,101]⟩] 325 (0,0))},
  rfl,by kernel_rfl,by kernel_rfl,by kernel_rfl,laidMet_of_run' 8 (by kernel_rfl) (by kernel_rfl)⟩
theorem fO (w0:World){H:Type}(enc:TypeId×Value→H):DataW.whole enc Tryz.prog (w0.forCall (fun _ _=>0) ⟨#[],#[.slice none 0 0],[]⟩).memory Tryz.f4.params.toList Rows.commitsSpec.vars false #[Value.slice none 0 0].toList 8=some ([.nil],[],[]):=by kernel_rfl
theorem own:ownKnob Tryz.prog.godebug=none:=by kernel_rfl
theorem KL (os:Os)(a0:os.Started)(H:Type)(enc:TypeId×Value→H)(F:Stop.Interp):
  ReturnsInLeavingWide {} Tryz.checked os 4 .any ((Rows.OpenSpec.upto Rows.commitsSpec).preRow enc Tryz.prog Tryz.f4 Rows.commitsUptoRow.domain false Rows.commitsUptoRow.laid) (((Rows.OpenSpec.upto Rows.commitsSpec).at F).post enc Tryz.prog Tryz.f4 false true false false):=by
 obtain⟨w0,ho,h1,h2,h3,h4⟩:=Uo os;refine Xb (C:=Tryz.checked) (s:=Rows.OpenSpec.upto Rows.commitsSpec) own a0 Tryz.func4
  (witness_row_at (enc:=enc) (C:=Tryz.checked) false w0 #[.slice none 0 0] ho h1 h2 h3
   (OpenSpec.preRow_of_cond 8 (fO w0 enc) (by kernel_rfl) (fun k hk=>by cases hk;kernel_rfl) (by kernel_rfl) h4)) ?_
 intro W base args ds gs a1 a2 hW hc hL hS;exact jQ H enc W base args ds gs a1 a2 hW (hc _ rfl) hL hS
theorem Kr:joinedFacts Tryz.pinned.checked.prog 4 Tryz.f4 (Rows.OpenSpec.upto Rows.commitsSpec).bare Rows.commitsUptoRow=true:=by
 unfold joinedFacts;simp only[Bool.and_eq_true];repeat' apply And.intro
 all_goals as_aux_lemma=>kernel_rfl
theorem Oz:Rows.CommitsUptoSaid:=
 holds_of_cond_leaving 4 Tryz.f4 rfl rfl rfl rfl rfl rfl rfl ⟨rfl,rfl,rfl,rfl,rfl⟩ rfl rfl rfl rfl rfl (by as_aux_lemma=>kernel_rfl) Tryz.func4 Kr
  (of_decide_eq_true (by as_aux_lemma=>kernel_rfl)) (by unfold Func.isWrapper;first|(rw[if_pos (by decide+kernel)];kernel_rfl)|(rw[if_neg (by decide+kernel)];exact⟨rfl,rfl⟩))
  (fun os a0 H enc _ F=>by rw[OpenClaim.pre_eq_preRow];exact KL os a0 H enc F)
theorem plain (f:FuncId)(fn:Func)(hf:Tryz.pinned.checked.prog.funcNamed "graft/graftlaw.Commits" =some f)(a0:Tryz.pinned.checked.prog.funcs[f]? =some fn):
  true=Tryz.pinned.checked.prog.looks []∧∀(j:Nat) t,fn.params[j]? =some t→Tryz.pinned.checked.prog.wantsStandIn t=false:=by
 obtain rfl:f=4:=Option.some.inj ((show Tryz.prog.funcNamed "graft/graftlaw.Commits" =some 4 by kernel_rfl).symm.trans hf)|>.symm;obtain rfl:fn=Tryz.f4:=(Option.some.inj (Tryz.func4.symm.trans a0)).symm;refine⟨by as_aux_lemma=>kernel_rfl,fun j t ht=> ?_⟩;rw[Tryz.params4]at ht;obtain rfl:t=22:=by simpa using Array.mem_of_getElem? ht
 exact(show Tryz.prog.wantsStandIn 22=false by kernel_rfl)
theorem tied_goes (Lk:Looks){p:Pinned}{s:OpenSpec}{c:OpenClaim}(kinds:List LaidKind)(a0:Bool)(a1:Bool×String)(lk:Bool)
  (hc:c.holds p s)(hw:c.wfByText s=true)(a2:c.laidByTextAt Lk p kinds a0)
  (a4:c.start= .entering)(a3:c.noBlocks=false∧c.again=false)(hm:p.checked.prog.mainIs=some (a1.1,a1.2.toList))(hn:(!a1.1&&a1.2.isEmpty&& !lk)=false)
  (hl:∀f fn,p.checked.prog.funcNamed c.func=some f→p.checked.prog.funcs[f]? =some fn→lk=p.checked.prog.looks []∧∀(j:Nat) t,fn.params[j]? =some t→p.checked.prog.wantsStandIn t=false)
  (hg:true=c.goesBy p.checked.prog):
  Claim7.holds p (.plain s) {stood:={row:=c,standIns:=[],harness:=a1,looks:=lk},kinds:=[],alts:=[],goes:=true,laidByText:=true,laidKinds:=kinds,laidTests:=a0,laidLooks:=Lk}:=by
 have h6:Claim7.isSixth {stood:={row:=c,standIns:=[],harness:=a1,looks:=lk},kinds:=[]}=false:=by simpa[Claim7.isSixth]using hn
 exact⟨Claim7.tied_new_at Lk kinds a0 (Claim7.new_of_sixth hc a1 lk a4 a3 hm h6 hl) hw,fun D hD=>(by cases hD),a2,(fun h=>by cases h),hg⟩
theorem commits_upto:Rows.CommitsUptoCardSaid:=
 tied_goes .later _ _ _ _ Oz (by as_aux_lemma=>kernel_rfl) commitsUpto_row_tie rfl ⟨rfl,rfl⟩ (by as_aux_lemma=>kernel_rfl) rfl plain (by as_aux_lemma=>kernel_rfl)
#print axioms commits_upto
