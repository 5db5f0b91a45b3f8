/- THE CARD of graftkeep.Summed: for every number, all raw acts and all numbers the call returns true and leaves them as they were (the tables of Go's library laid as the program's text lays them). -/
import Derived.Test.YtolgebdmffcemaaGreatDoorQ32
import Derived.Test.YtolgebdmffcemaaGreatDoorCards
import Derived.Test.YtolgebdmffcemaaGreatDoorTie
import Derived.LaidLaws
set_option linter.all false
set_option maxHeartbeats 20000000
set_option maxRecDepth 1000000
namespace Go.Proofs.YtolgebdmffcemaaGreatDoor
open Go Go.Conc Go.ChangeShapes Go.WideShapes Go.ChangeAt Go.RowKit
section
variable {H:Type}{enc:TypeId×Value→H}
theorem jZ:Tryz.prog.cellsOf 48=4:=by kernel_rfl
theorem four {α:Type}(l:List α)(h:l.length=4):∃a b c d,l=[a,b,c,d]:=by
 rcases l with _|⟨a,l⟩
 ·simp at h
 rcases l with _|⟨b,l⟩
 ·simp at h
 rcases l with _|⟨c,l⟩
 ·simp at h
 rcases l with _|⟨d,l⟩
 ·simp at h
 rcases l with _|⟨x,l⟩
 ·exact⟨a,b,c,d,rfl⟩
 ·simp at h
def XK (o:R.Raw):List Value:=[.int .i64 o.kind,.int .i64 o.br,.int .i64 o.path,.int .i64 o.n]
theorem Gy {w:World}{sp:Nat→Bool}{hd:Bool}{n:Nat}{cs:List Value}{x:DataW H×List MemPlace}(h:DataW.trod enc Tryz.prog w 0 sp hd n 48 cs=some x):
  ∃o:R.Raw,cs=XK o∧okR o:=by
 obtain⟨xs,m,rfl,rfl,hl,a0,hf⟩:=DataW.trod_struct Tryz.underlying48 h;clear h;rw[jZ]at hl;obtain⟨c0,c1,c2,c3,rfl⟩:=four cs hl;obtain⟨x0,x1,x2,x3,rfl⟩:=four xs a0;have h0:DataW.trod enc Tryz.prog w 0 sp hd m 3 (([c0,c1,c2,c3].drop 0).take (Tryz.prog.cellsOf 3))=some x0:=hf 0 _ rfl;have h1:DataW.trod enc Tryz.prog w 0 sp hd m 3 (([c0,c1,c2,c3].drop 1).take (Tryz.prog.cellsOf 3))=some x1:=hf 1 _ rfl;have h2:DataW.trod enc Tryz.prog w 0 sp hd m 3 (([c0,c1,c2,c3].drop 2).take (Tryz.prog.cellsOf 3))=some x2:=hf 2 _ rfl;have h3:DataW.trod enc Tryz.prog w 0 sp hd m 3 (([c0,c1,c2,c3].drop 3).take (Tryz.prog.cellsOf 3))=some x3:=hf 3 _ rfl;clear hf;rw[jY]at h0 h1 h2 h3;obtain⟨n0,e0, -,k0⟩:=DataW.trod_int Tryz.underlying3 h0;obtain⟨n1,e1, -,k1⟩:=DataW.trod_int Tryz.underlying3 h1;obtain⟨n2,e2, -,k2⟩:=DataW.trod_int Tryz.underlying3 h2;obtain⟨n3,e3, -,k3⟩:=DataW.trod_int Tryz.underlying3 h3;simp only[List.drop_zero,List.drop_succ_cons,List.take_succ_cons,List.take_zero,List.cons.injEq,and_true]at e0 e1 e2 e3;subst e0 e1 e2 e3;exact⟨⟨n0,n1,n2,n3⟩,rfl,⟨YS k0,YS k1,YS k2,YS k3⟩⟩
theorem jj (l:List R.Raw):(yB l).length=4*l.length:=by
 induction l with
 |nil=>rfl
 |cons o l ih=>
  show(XK o++yB l).length=_;rw[List.length_append,ih];simp[XK];omega
theorem oZ (l:List R.Raw)(i j:Nat)(h:i<l.length)(hj:j<4):(yB l)[i*4+j]? =(XK (l[i]'h))[j]? :=by
 obtain⟨h0,h1,h2,h3⟩:=VF l i h;rcases(by omega:j=0∨j=1∨j=2∨j=3)with rfl|rfl|rfl|rfl
 ·exact h0
 ·exact h1
 ·exact h2
 ·exact h3
theorem gh {w:World}{base:Nat}{v:Value}{d:DataW H}{ps:List MemPlace}(hv:Value.okWide Tryz.prog w .any base 25 v)(h:DataW.Trod enc Tryz.prog w 0 (fun _=>true) true 25 v d ps):
  ∃l:List R.Raw,(∀o∈l,okR o)∧Rd w (fun _=>False) v l.length (yB l):=by
 obtain⟨a5,h⟩:=h;obtain⟨a,a1,cap,rfl⟩:=okWide_slice Tryz.underlying25 hv;clear hv;rcases Deep.open_slice Tryz.underlying25 h with⟨h1,h2⟩|⟨a',a3,a2,m,n,D,Pl,h1, -,hl,hc,hm,hx,he⟩
 ·obtain⟨rfl,rfl,rfl⟩:a=none∧a1=0∧cap=0:=by simpa[Value.cells]using h1
  exact⟨[],by simp,none,0,rfl,j0a _,Nat.zero_le _,fun h=>absurd h (Nat.lt_irrefl _)⟩
 ·obtain⟨rfl,rfl,rfl⟩:a=some a' ∧a1=a3 ∧cap=a2 :=by simpa[Value.cells]using h1
  obtain rfl:m=cap:=by simpa using hm
  clear hx h h1 hm;rw[jZ]at he;have a7:Inhabited R.Raw:=⟨⟨0,0,0,0⟩⟩
  obtain⟨f,hf⟩:=Deep.choose_lt (α:=R.Raw) (n:=m) (p:=fun i o=>w.cells? 0 (a'.add (i*4)) 4=some (XK o)∧okR o) (fun i hi=>by
   obtain⟨cs,h1,h2⟩:=he i hi;obtain⟨o,rfl,h3⟩:=Gy h2;exact⟨o,h1,h3⟩)
  refine⟨(List.range a1).map f,fun o ho=> ?_,some a',m,by simp,by simpa using hl,hc,fun h0=> ?_⟩
  ·obtain⟨i,hi,rfl⟩:=List.mem_map.1 ho
   exact(hf i (j0b (List.mem_range.1 hi) hl)).2
  ·have a6 :0<a1:=by simpa using h0
   have a0:∀i,i<a1→∀j,j<4→w.cell? ((a'.add (i*4)).add j)=(XK (f i))[j]? :=fun i hi=>(World.cells?_some (hf i (j0b hi hl)).1).2.2
   obtain⟨b,off,a4⟩:=a';have g0:=a0 0 a6 0 (by omega);have g1:(XK (f 0))[0]? =some (.int .i64 (f 0).kind):=rfl;rw[g1]at g0;obtain rfl:a4=none:=by simpa[Addr.add]using World.cell?_spot g0
   refine⟨b,off,rfl,?_,id,fun j u hu=> ?_⟩
   ·exact Qf g0
   ·have hj:j<4*a1:=by
     have:=(List.getElem?_eq_some_iff.1 hu).1;rw[jj,List.length_map,List.length_range]at this;exact this
    have h1:=a0 (j/4) (by omega) (j % 4) (by omega);rw[Deep.add_add,show j/4*4+j % 4=j from by omega]at h1;rw[add_plain]at h1;rw[h1,←hu];have h2:=oZ ((List.range a1).map f) (j/4) (j % 4) (by simp;omega) (by omega);rw[show j/4*4+j % 4=j from by omega]at h2;rw[h2];simp
theorem gd {w:World}{base:Nat}{v:Value}{d:DataW H}{ps:List MemPlace}(hv:Value.okWide Tryz.prog w .any base 39 v)(h:DataW.Trod enc Tryz.prog w 0 (fun _=>true) true 39 v d ps):
  ∃l:List Int,(∀n∈l,okN n)∧Rd w (fun _=>False) v l.length (l.map fun n=>Value.int .i64 n):=by
 obtain⟨a5,h⟩:=h;obtain⟨a,a1,cap,rfl⟩:=okWide_slice Tryz.underlying39 hv;clear hv;rcases Deep.open_slice Tryz.underlying39 h with⟨h1,h2⟩|⟨a',a3,a2,m,n,D,Pl,h1, -,hl,hc,hm,hx,he⟩
 ·obtain⟨rfl,rfl,rfl⟩:a=none∧a1=0∧cap=0:=by simpa[Value.cells]using h1
  exact⟨[],by simp,none,0,rfl,j0a _,Nat.zero_le _,fun h=>absurd h (Nat.lt_irrefl _)⟩
 ·obtain⟨rfl,rfl,rfl⟩:a=some a' ∧a1=a3 ∧cap=a2 :=by simpa[Value.cells]using h1
  obtain rfl:m=cap:=by simpa using hm
  clear hx h h1 hm;rw[jY]at he;obtain⟨f,hf⟩:=Deep.choose_lt (α:=Int) (n:=m) (p:=fun i o=>w.cells? 0 (a'.add (i*1)) 1=some [Value.int .i64 o]∧okN o) (fun i hi=>by
   obtain⟨cs,h1,h2⟩:=he i hi;obtain⟨o,rfl, -,h3⟩:=DataW.trod_int Tryz.underlying3 h2;exact⟨o,h1,YS h3⟩)
  refine⟨(List.range a1).map f,fun o ho=> ?_,some a',m,by simp,by simpa using hl,hc,fun h0=> ?_⟩
  ·obtain⟨i,hi,rfl⟩:=List.mem_map.1 ho
   exact(hf i (j0b (List.mem_range.1 hi) hl)).2
  ·have a6 :0<a1:=by simpa using h0
   have a0:∀i,i<a1→w.cell? ((a'.add (i*1)).add 0)=some (Value.int .i64 (f i)):=fun i hi=>(World.cells?_some (hf i (j0b hi hl)).1).2.2 0 (by decide)
   obtain⟨b,off,a4⟩:=a';have g0:=a0 0 a6;obtain rfl:a4=none:=by simpa[Addr.add]using World.cell?_spot g0
   refine⟨b,off,rfl,?_,id,fun j u hu=> ?_⟩
   ·exact Qf g0
   ·have hj:j<a1:=by
     have:=(List.getElem?_eq_some_iff.1 hu).1;simpa using this
    have h1:=a0 j hj;rw[Deep.add_add,Nat.mul_one,Nat.add_zero]at h1;rw[add_plain]at h1;rw[h1,←hu];simp[hj]
end
theorem GV {W:World}(h:laidMetH Tryz.prog Rows.summedRow.laid W)(hs:W.ShapedOpen Tryz.prog):ZO W:=by
 refine⟨Tryz.laysM146.s1_3 W hs,?_,?_⟩
 ·have h1:=(jL h (by kernel_rfl)).tail.tail
  exact Lib.tabIs_of_head (zs:=Lib.pow10Tab) uX jf Tryz.underlying298 Tryz.underlying278 gN gO h1
 ·have h1:=jL h (by kernel_rfl)
  obtain⟨ps,⟨_,_,_,_,_,_,_,_,_,_,⟨g,t,cs,a0,p,q,hg,ht,hv,_,_,_⟩,_⟩,_⟩:=h1;obtain rfl:(7:Nat)=g:=Option.some.inj (jR.symm.trans hg);simp only[World.var?,jR,Option.bind_some]at hv;rcases Nat.lt_or_ge 7 W.heap.size with h' |h'
  ·omega
  ·rw[Array.getElem?_eq_none h']at hv
   cases hv
theorem jk {w w' :World}(h:ze w w'):Fv w.heap.size w w' :=⟨h.os,h.output,h.size,fun b hb=>h.block b hb⟩
theorem jK:laidOutB Tryz.prog=true:=by kernel_rfl
theorem jl:Tryz.prog.readableRec 25=true:=by kernel_rfl
theorem Fu:25<Tryz.prog.types.size:=of_decide_eq_true (by kernel_rfl)
theorem j5:Tryz.prog.readableRec 39=true:=by kernel_rfl
theorem F8:39<Tryz.prog.types.size:=of_decide_eq_true (by kernel_rfl)
theorem uo (H:Type)(enc:TypeId×Value→H)(W:World)(base:Nat)(args:Array Value)(ds gs:List (DataW H))(a1:List MemPlace)
  (a0:∀(j:Nat) t v,Tryz.f7.params[j]? =some t→args[j]? =some v→Value.okWide Tryz.prog W .any base t v)
  (hW:DataW.Whole enc Tryz.prog Tryz.f7.params.toList Rows.summedSpec.vars false W args.toList ds gs a1)
  (hL:laidMetH Tryz.prog Rows.summedRow.laid W)(hS:W.ShapedOpen Tryz.prog):
  ∃M last o w' t',runNT Tryz.prog (M+1) (solo (G (Frame.enter Tryz.prog 7 args .normal) []) W) #[]=(.ended o w',t')∧runN Tryz.prog M (solo (G (Frame.enter Tryz.prog 7 args .normal) []) W)= .next last∧
   step Tryz.prog last= .ended o w' ∧Conc.Good Tryz.prog (fun v W' =>Rows.summedSpec.post enc Tryz.prog Tryz.f7 false true false false W args v W') last o w' t' :=by
 have a7 :=hW;obtain⟨p,q,b1,hV,rfl,b8,b9⟩:=hW;have hA:DataW.TrodAll enc Tryz.prog W 0 (fun _=>true) true Tryz.f7.params.toList args.toList ds p:=b1;rw[Tryz.params7]at hA a0;obtain⟨v0,c6,d0,b5,p0,q0,b2,rfl,rfl,h0,r0⟩:=trodAll_cons hA;obtain⟨v1,c7,d1,b6,p1,q1,a2,rfl,rfl,h1,r1⟩:=trodAll_cons r0;obtain⟨v2,c8,d2,b7,p2,q2,a3,rfl,rfl,h2,r2⟩:=trodAll_cons r1;obtain⟨rfl,rfl,rfl⟩:=trodAll_nil r2;subst a3 a2;obtain rfl:args= #[v0,v1,v2]:=by cases args;simp_all
 obtain⟨rfl,rfl⟩:=trodVars_none hV;clear b1;obtain⟨n0,rfl,rfl,rfl,b0⟩:=open_int Tryz.underlying3 (a0 0 3 v0 rfl rfl) h0;obtain⟨a6,a8,b3⟩:=gh (a0 1 25 v1 rfl rfl) h1;obtain⟨ord,a9,b4⟩:=gd (a0 2 39 v2 rfl rfl) h2;have hG:ZO W:=GV hL hS;obtain⟨M,last,o,w',t',k1,k2,k3,k4⟩:=gE hG hG.size n0 (YS b0) v1 v2 a6 ord b3 b4 a8 a9;refine⟨M,last,o,w',t',k1,k2,k3,jQ k4 ?_⟩;rintro v ⟨rfl,hk⟩;have hg:=jk hk;have a4:∀x∈p1,x.block<W.heap.size:=fun x hx=>a7.lt x (by simp[hx])
 have a5:∀x∈p2,x.block<W.heap.size:=fun x hx=>a7.lt x (by simp[hx])
 refine⟨[.lit (.int .i64 n0),d1,d2],[],[]++(p1++(p2++ [])),[],[]++(p1++(p2++ [])),[],by simpa using a7,trodAll_cons_mk (shut_bool Tryz.underlying4 _) trodAll_mk0,?_,rfl,KD hg _,fun h=>by cases h⟩;exact trodAll_cons_mk (shut_int Tryz.underlying3 b0) (trodAll_cons_mk (Go.WideElems.Trod_stays jK jl Fu h1 (fun x hx=>Q3 hg (a4 x hx)) (fun x hx=>by simpa using a4 x hx)) (trodAll_cons_mk (Go.WideElems.Trod_stays jK j5 F8 h2 (fun x hx=>Q3 hg (a5 x hx)) (fun x hx=>by simpa using a5 x hx)) trodAll_mk0))
def cY:DataW Unit→List Value
 | .lit (.int k z)=> [.int k z]
 |_=> []
def cX:DataW Unit→List Value
 | .agg l=>l.flatMap cY
 |d=>cY d
def Ch:DataW Unit→Array Value
 | .agg l=>(l.flatMap cX).toArray
 |d=>(cX d).toArray
def Xl (d:DataW Unit):Obj→Obj
 | .cells _ t frozen=> .cells (Ch d) t frozen
 |o=>o
def Uq (b:Nat):Obj→Obj
 | .cells _ t frozen=> .cells #[.iface 323 (.pointer (some ⟨b,0,none⟩))] t frozen
 |o=>o
theorem oM (os:Os):∃w0:World,w0.os=os∧(w0.forCall (fun _ _=>0) ⟨#[],#[.int .i64 0,.slice none 0 0,.slice none 0 0],[]⟩).variablesB Tryz.checked.prog=true∧
  ((w0.forCall (fun _ _=>0) ⟨#[],#[.int .i64 0,.slice none 0 0,.slice none 0 0],[]⟩).heap.toList.drop Tryz.checked.prog.globals.size).take ((begin Tryz.checked.prog (fun _ _=>0) default).world.heap.size-Tryz.checked.prog.globals.size)=
   (begin Tryz.checked.prog (fun _ _=>0) default).world.heap.toList.drop Tryz.checked.prog.globals.size∧
  Input.okWideB Tryz.checked.prog (w0.forCall (fun _ _=>0) ⟨#[],#[.int .i64 0,.slice none 0 0,.slice none 0 0],[]⟩) 7 ⟨#[],#[.int .i64 0,.slice none 0 0,.slice none 0 0],[]⟩=true∧
  laidMet Tryz.prog Rows.summedRow.laid (w0.forCall (fun _ _=>0) ⟨#[],#[.int .i64 0,.slice none 0 0,.slice none 0 0],[]⟩).memory:=
 ⟨{World.holding Tryz.prog os ⟨#[],#[],[]⟩with heap:=(((((((((World.holding Tryz.prog os ⟨#[],#[],[]⟩).heap.modify 1 (Xl Rows.laid_internal_strconv_uint64pow10)).modify 2 (Xl Rows.laid_unicode_utf8_first)).modify 3 (Xl Rows.laid_unicode_utf8_acceptRanges)).modify 4 (Uq 13)).modify 5 (Uq 14)).modify 6 (Xl Rows.laid_math_bits_deBruijn32tab)).modify 7 (Xl Rows.laid_math_bits_deBruijn64tab)).push (.cells #[.string ⟨#[105,110,118,97,108,105,100,32,115,121,110,116,97,120]⟩] 325 (0,0))).push (.cells #[.string ⟨#[118,97,108,117,101,32,111,117,116,32,111,102,32,114,97,110,103,101]⟩] 325 (0,0))},
  rfl,by kernel_rfl,by kernel_rfl,by kernel_rfl,laidMet_of_run' 8 (by kernel_rfl) (by kernel_rfl)⟩
theorem cV (w0:World){H:Type}(enc:TypeId×Value→H):DataW.whole enc Tryz.prog (w0.forCall (fun _ _=>0) ⟨#[],#[.int .i64 0,.slice none 0 0,.slice none 0 0],[]⟩).memory Tryz.f7.params.toList Rows.summedSpec.vars false (#[.int .i64 0,.slice none 0 0,.slice none 0 0]:Array Value).toList 8=some ([.lit (.int .i64 0),.nil,.nil],[],[]):=by kernel_rfl
theorem own:ownKnob Tryz.prog.godebug=none:=by kernel_rfl
theorem Jy (os:Os)(a0:os.Started)(H:Type)(enc:TypeId×Value→H)(F:Stop.Interp):
  ReturnsInLeavingWide {} Tryz.checked os 7 .any ((OpenSpec.ofChange Rows.summedSpec).preRow enc Tryz.prog Tryz.f7 Rows.summedRow.domain false Rows.summedRow.laid) (((OpenSpec.ofChange Rows.summedSpec).at F).post enc Tryz.prog Tryz.f7 false true false false):=by
 obtain⟨w0,ho,h1,h2,h3,h4⟩:=oM os;refine xT (C:=Tryz.checked) (s:=OpenSpec.ofChange Rows.summedSpec) own a0 Tryz.func7
  (witness_row_at (enc:=enc) (C:=Tryz.checked) false w0 #[.int .i64 0,.slice none 0 0,.slice none 0 0] ho h1 h2 h3
   (OpenSpec.preRow_of_cond 8 (cV w0 enc) (by kernel_rfl) (fun k hk=>by cases hk) (by kernel_rfl) h4)) ?_
 intro W base args ds gs a1 a2 hW hc hL hS;exact uo H enc W base args ds gs a1 a2 hW hL hS
theorem ji:joinedFacts Tryz.pinned.checked.prog 7 Tryz.f7 (OpenSpec.ofChange Rows.summedSpec).bare Rows.summedRow=true:=by
 unfold joinedFacts;simp only[Bool.and_eq_true];repeat' apply And.intro
 all_goals as_aux_lemma=>kernel_rfl
theorem Gh:Rows.SummedSaid:=
 holds_of_cond_leaving 7 Tryz.f7 rfl rfl rfl rfl rfl rfl rfl ⟨rfl,rfl,rfl,rfl,rfl⟩ rfl rfl rfl rfl rfl (by as_aux_lemma=>kernel_rfl) Tryz.func7 ji
  (of_decide_eq_true (by as_aux_lemma=>kernel_rfl)) (by unfold Func.isWrapper;first|(rw[if_pos (by decide+kernel)];kernel_rfl)|(rw[if_neg (by decide+kernel)];exact⟨rfl,rfl⟩))
  (fun os a0 H enc _ F=>by rw[OpenClaim.pre_eq_preRow];exact Jy os a0 H enc F)
theorem plain (f:FuncId)(fn:Func)(hf:Tryz.pinned.checked.prog.funcNamed "graft/graftkeep.Summed" =some f)(a0:Tryz.pinned.checked.prog.funcs[f]? =some fn):
  true=Tryz.pinned.checked.prog.looks []∧∀(j:Nat) t,fn.params[j]? =some t→Tryz.pinned.checked.prog.wantsStandIn t=false:=by
 obtain rfl:f=7:=Option.some.inj ((show Tryz.prog.funcNamed "graft/graftkeep.Summed" =some 7 by kernel_rfl).symm.trans hf)|>.symm;obtain rfl:fn=Tryz.f7:=(Option.some.inj (Tryz.func7.symm.trans a0)).symm;refine⟨by as_aux_lemma=>kernel_rfl,fun j t ht=> ?_⟩;rw[Tryz.params7]at ht;have a1 :t=3∨t=25∨t=39:=by simpa using Array.mem_of_getElem? ht
 rcases a1 with rfl|rfl|rfl
 ·exact(show Tryz.prog.wantsStandIn 3=false by kernel_rfl)
 ·exact(show Tryz.prog.wantsStandIn 25=false by kernel_rfl)
 ·exact(show Tryz.prog.wantsStandIn 39=false by kernel_rfl)
theorem tied_goes (Lk:Looks){p:Pinned}{s:OpenSpec}{c:OpenClaim}(kinds:List LaidKind)(a0:Bool)(a1:Bool×String)(lk:Bool)
  (hc:c.holds p s)(hw:c.wfByText s=true)(a2:c.laidByTextAt Lk p kinds a0)
  (a4:c.start= .entering)(a3:c.noBlocks=false∧c.again=false)(hm:p.checked.prog.mainIs=some (a1.1,a1.2.toList))(hn:(!a1.1&&a1.2.isEmpty&& !lk)=false)
  (hl:∀f fn,p.checked.prog.funcNamed c.func=some f→p.checked.prog.funcs[f]? =some fn→lk=p.checked.prog.looks []∧∀(j:Nat) t,fn.params[j]? =some t→p.checked.prog.wantsStandIn t=false)
  (hg:true=c.goesBy p.checked.prog):
  Claim7.holds p (.plain s) {stood:={row:=c,standIns:=[],harness:=a1,looks:=lk},kinds:=[],alts:=[],goes:=true,laidByText:=true,laidKinds:=kinds,laidTests:=a0,laidLooks:=Lk}:=by
 have h6:Claim7.isSixth {stood:={row:=c,standIns:=[],harness:=a1,looks:=lk},kinds:=[]}=false:=by simpa[Claim7.isSixth]using hn
 exact⟨Claim7.tied_new_at Lk kinds a0 (Claim7.new_of_sixth hc a1 lk a4 a3 hm h6 hl) hw,fun D hD=>(by cases hD),a2,(fun h=>by cases h),hg⟩
theorem summed_full:Rows.SummedCardSaid:=
 tied_goes .later _ _ _ _ Gh (by as_aux_lemma=>kernel_rfl) summed_row_tie rfl ⟨rfl,rfl⟩ (by as_aux_lemma=>kernel_rfl) rfl plain (by as_aux_lemma=>kernel_rfl)
#print axioms summed_full
