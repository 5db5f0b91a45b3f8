/- THE CARD of graftkeep.Stays: for all raw acts, all later ones and every two numbers the call returns true and leaves them as they were (the tables of Go's library laid as the program's text lays them). -/
import Derived.Test.YtolgebdmffcemaaGreatDoorCards
import Derived.Test.YtolgebdmffcemaaGreatDoorTie
import Derived.Test.YtolgebdmffcemaaGreatDoorQ33
import Derived.LaidLaws
set_option linter.all false
set_option maxHeartbeats 20000000
set_option maxRecDepth 1000000
namespace Go.Proofs.YtolgebdmffcemaaGreatDoor
open Go Go.Conc Go.ChangeShapes Go.WideShapes Go.ChangeAt Go.RowKit
section
variable {H:Type}{enc:TypeId×Value→H}
theorem JF:Tryz.prog.cellsOf 48=4:=by kernel_rfl
theorem four {α:Type}(l:List α)(h:l.length=4):∃a b c d,l=[a,b,c,d]:=by
 rcases l with _|⟨a,l⟩
 ·simp at h
 rcases l with _|⟨b,l⟩
 ·simp at h
 rcases l with _|⟨c,l⟩
 ·simp at h
 rcases l with _|⟨d,l⟩
 ·simp at h
 rcases l with _|⟨x,l⟩
 ·exact⟨a,b,c,d,rfl⟩
 ·simp at h
def qg (o:R.Raw):List Value:=[.int .i64 o.kind,.int .i64 o.br,.int .i64 o.path,.int .i64 o.n]
theorem fM {w:World}{sp:Nat→Bool}{hd:Bool}{n:Nat}{cs:List Value}{x:DataW H×List MemPlace}(h:DataW.trod enc Tryz.prog w 0 sp hd n 48 cs=some x):
  ∃o:R.Raw,cs=qg o∧okR o:=by
 obtain⟨xs,m,rfl,rfl,hl,a0,hf⟩:=DataW.trod_struct Tryz.underlying48 h;clear h;rw[JF]at hl;obtain⟨c0,c1,c2,c3,rfl⟩:=four cs hl;obtain⟨x0,x1,x2,x3,rfl⟩:=four xs a0;have h0:DataW.trod enc Tryz.prog w 0 sp hd m 3 (([c0,c1,c2,c3].drop 0).take (Tryz.prog.cellsOf 3))=some x0:=hf 0 _ rfl;have h1:DataW.trod enc Tryz.prog w 0 sp hd m 3 (([c0,c1,c2,c3].drop 1).take (Tryz.prog.cellsOf 3))=some x1:=hf 1 _ rfl;have h2:DataW.trod enc Tryz.prog w 0 sp hd m 3 (([c0,c1,c2,c3].drop 2).take (Tryz.prog.cellsOf 3))=some x2:=hf 2 _ rfl;have h3:DataW.trod enc Tryz.prog w 0 sp hd m 3 (([c0,c1,c2,c3].drop 3).take (Tryz.prog.cellsOf 3))=some x3:=hf 3 _ rfl;clear hf;rw[GR]at h0 h1 h2 h3;obtain⟨n0,e0, -,k0⟩:=DataW.trod_int Tryz.underlying3 h0;obtain⟨n1,e1, -,k1⟩:=DataW.trod_int Tryz.underlying3 h1;obtain⟨n2,e2, -,k2⟩:=DataW.trod_int Tryz.underlying3 h2;obtain⟨n3,e3, -,k3⟩:=DataW.trod_int Tryz.underlying3 h3;simp only[List.drop_zero,List.drop_succ_cons,List.take_succ_cons,List.take_zero,List.cons.injEq,and_true]at e0 e1 e2 e3;subst e0 e1 e2 e3;exact⟨⟨n0,n1,n2,n3⟩,rfl,⟨xk k0,xk k1,xk k2,xk k3⟩⟩
theorem J1 (l:List R.Raw):(Z_ l).length=4*l.length:=by
 induction l with
 |nil=>rfl
 |cons o l ih=>
  show(qg o++Z_ l).length=_;rw[List.length_append,ih];simp[qg];omega
theorem ga (l:List R.Raw)(i j:Nat)(h:i<l.length)(hj:j<4):(Z_ l)[i*4+j]? =(qg (l[i]'h))[j]? :=by
 obtain⟨h0,h1,h2,h3⟩:=kz l i h;rcases(by omega:j=0∨j=1∨j=2∨j=3)with rfl|rfl|rfl|rfl
 ·exact h0
 ·exact h1
 ·exact h2
 ·exact h3
theorem Ji {w:World}{base:Nat}{v:Value}{d:DataW H}{ps:List MemPlace}(hv:Value.okWide Tryz.prog w .any base 25 v)(h:DataW.Trod enc Tryz.prog w 0 (fun _=>true) true 25 v d ps):
  ∃l:List R.Raw,(∀o∈l,okR o)∧Rd w (fun _=>False) v l.length (Z_ l):=by
 obtain⟨a4,h⟩:=h;obtain⟨a,len,cap,rfl⟩:=okWide_slice Tryz.underlying25 hv;clear hv;rcases Deep.open_slice Tryz.underlying25 h with⟨h1,h2⟩|⟨a',a2,a1,m,n,D,Pl,h1, -,hl,hc,hm,hx,he⟩
 ·obtain⟨rfl,rfl,rfl⟩:a=none∧len=0∧cap=0:=by simpa[Value.cells]using h1
  exact⟨[],by simp,none,0,rfl,j0a _,Nat.zero_le _,fun h=>absurd h (Nat.lt_irrefl _)⟩
 ·obtain⟨rfl,rfl,rfl⟩:a=some a' ∧len=a2 ∧cap=a1 :=by simpa[Value.cells]using h1
  obtain rfl:m=cap:=by simpa using hm
  clear hx h h1 hm;rw[JF]at he;have a6:Inhabited R.Raw:=⟨⟨0,0,0,0⟩⟩
  obtain⟨f,hf⟩:=Deep.choose_lt (α:=R.Raw) (n:=m) (p:=fun i o=>w.cells? 0 (a'.add (i*4)) 4=some (qg o)∧okR o) (fun i hi=>by
   obtain⟨cs,h1,h2⟩:=he i hi;obtain⟨o,rfl,h3⟩:=fM h2;exact⟨o,h1,h3⟩)
  refine⟨(List.range len).map f,fun o ho=> ?_,some a',m,by simp,by simpa using hl,hc,fun h0=> ?_⟩
  ·obtain⟨i,hi,rfl⟩:=List.mem_map.1 ho
   exact(hf i (j0b (List.mem_range.1 hi) hl)).2
  ·have a5 :0<len:=by simpa using h0
   have a0:∀i,i<len→∀j,j<4→w.cell? ((a'.add (i*4)).add j)=(qg (f i))[j]? :=fun i hi=>(World.cells?_some (hf i (j0b hi hl)).1).2.2
   obtain⟨b,off,a3⟩:=a';have g0:=a0 0 a5 0 (by omega);have g1:(qg (f 0))[0]? =some (.int .i64 (f 0).kind):=rfl;rw[g1]at g0;obtain rfl:a3=none:=by simpa[Addr.add]using World.cell?_spot g0
   refine⟨b,off,rfl,?_,id,fun j u hu=> ?_⟩
   ·exact J2 g0
   ·have hj:j<4*len:=by
     have:=(List.getElem?_eq_some_iff.1 hu).1;rw[J1,List.length_map,List.length_range]at this;exact this
    have h1:=a0 (j/4) (by omega) (j % 4) (by omega);rw[Deep.add_add,show j/4*4+j % 4=j from by omega]at h1;rw[add_plain]at h1;rw[h1,←hu];have h2:=ga ((List.range len).map f) (j/4) (j % 4) (by simp;omega) (by omega);rw[show j/4*4+j % 4=j from by omega]at h2;rw[h2];simp
end
theorem F9 {W:World}(h:laidMetH Tryz.prog Rows.summedRow.laid W)(hs:W.ShapedOpen Tryz.prog):ZL W:=by
 refine⟨Tryz.laysM146.s1_3 W hs,?_,?_⟩
 ·have h1:=(Js h (by kernel_rfl)).tail.tail
  exact Lib.tabIs_of_head (zs:=Lib.pow10Tab) o7 jV Tryz.underlying298 Tryz.underlying278 GP GQ h1
 ·have h1:=Js h (by kernel_rfl)
  obtain⟨ps,⟨_,_,_,_,_,_,_,_,_,_,⟨g,t,cs,a0,p,q,hg,ht,hv,_,_,_⟩,_⟩,_⟩:=h1;obtain rfl:(7:Nat)=g:=Option.some.inj (Jy.symm.trans hg);simp only[World.var?,Jy,Option.bind_some]at hv;rcases Nat.lt_or_ge 7 W.heap.size with h' |h'
  ·omega
  ·rw[Array.getElem?_eq_none h']at hv
   cases hv
theorem J3 {w w' :World}(h:ze w w'):C0 w.heap.size w w' :=⟨h.os,h.output,h.size,fun b hb=>h.block b hb⟩
theorem Jr:laidOutB Tryz.prog=true:=by kernel_rfl
theorem QQ:Tryz.prog.readableRec 25=true:=by kernel_rfl
theorem gW:25<Tryz.prog.types.size:=of_decide_eq_true (by kernel_rfl)
theorem Ow (H:Type)(enc:TypeId×Value→H)(W:World)(base:Nat)(args:Array Value)(ds gs:List (DataW H))(a1:List MemPlace)
  (a0:∀(j:Nat) t v,Tryz.f9.params[j]? =some t→args[j]? =some v→Value.okWide Tryz.prog W .any base t v)
  (hW:DataW.Whole enc Tryz.prog Tryz.f9.params.toList Rows.staysSpec.vars false W args.toList ds gs a1)
  (hL:laidMetH Tryz.prog Rows.staysRow.laid W)(hS:W.ShapedOpen Tryz.prog):
  ∃M last o w' t',runNT Tryz.prog (M+1) (solo (G (Frame.enter Tryz.prog 9 args .normal) []) W) #[]=(.ended o w',t')∧runN Tryz.prog M (solo (G (Frame.enter Tryz.prog 9 args .normal) []) W)= .next last∧
   step Tryz.prog last= .ended o w' ∧Conc.Good Tryz.prog (fun v W' =>Rows.staysSpec.post enc Tryz.prog Tryz.f9 false true false false W args v W') last o w' t' :=by
 have a7 :=hW;obtain⟨p,q,a9,hV,rfl,c6,c7⟩:=hW;have hA:DataW.TrodAll enc Tryz.prog W 0 (fun _=>true) true Tryz.f9.params.toList args.toList ds p:=a9;rw[Tryz.params9]at hA a0;obtain⟨v0,c8,d0,b6,p0,q0,b1,rfl,rfl,h0,r0⟩:=trodAll_cons hA;obtain⟨v1,c9,d1,b7,p1,q1,a2,rfl,rfl,h1,r1⟩:=trodAll_cons r0;obtain⟨v2,d4,d2,b8,p2,q2,a3,rfl,rfl,h2,r2⟩:=trodAll_cons r1;obtain⟨v3,d5,d3,b9,p3,q3,a4,rfl,rfl,h3,r3⟩:=trodAll_cons r2;obtain⟨rfl,rfl,rfl⟩:=trodAll_nil r3;subst a4 a3 a2;obtain rfl:args= #[v0,v1,v2,v3]:=by cases args;simp_all
 obtain⟨rfl,rfl⟩:=trodVars_none hV;clear a9;obtain⟨n2,rfl,rfl,rfl,b2⟩:=open_int Tryz.underlying3 (a0 2 3 v2 rfl rfl) h2;obtain⟨n3,rfl,rfl,rfl,b3⟩:=open_int Tryz.underlying3 (a0 3 3 v3 rfl rfl) h3;obtain⟨l,b5,hR⟩:=Ji (a0 0 25 v0 rfl rfl) h0;obtain⟨l2,a8,b4⟩:=Ji (a0 1 25 v1 rfl rfl) h1;have hG:ZL W:=F9 hL hS;obtain⟨M,last,o,w',t',k1,k2,k3,k4⟩:=F8 hG hG.size hR b4 b5 a8 n2 n3 (xk b2) (xk b3);refine⟨M,last,o,w',t',k1,k2,k3,Jx k4 ?_⟩;rintro v ⟨rfl,hk⟩;have hg:=J3 hk;have a5:∀x∈p0,x.block<W.heap.size:=fun x hx=>a7.lt x (by simp[hx])
 have a6:∀x∈p1,x.block<W.heap.size:=fun x hx=>a7.lt x (by simp[hx])
 refine⟨[d0,d1,.lit (.int .i64 n2),.lit (.int .i64 n3)],[],p0++(p1++([]++([]++ []))),[],p0++(p1++([]++([]++ []))),[],by simpa using a7,trodAll_cons_mk (shut_bool Tryz.underlying4 _) trodAll_mk0,?_,rfl,jg hg _,fun h=>by cases h⟩;exact trodAll_cons_mk (Go.WideElems.Trod_stays Jr QQ gW h0 (fun x hx=>QD hg (a5 x hx)) (fun x hx=>by simpa using a5 x hx)) (trodAll_cons_mk (Go.WideElems.Trod_stays Jr QQ gW h1 (fun x hx=>QD hg (a6 x hx)) (fun x hx=>by simpa using a6 x hx)) (trodAll_cons_mk (shut_int Tryz.underlying3 b2) (trodAll_cons_mk (shut_int Tryz.underlying3 b3) trodAll_mk0)))
def be:DataW Unit→List Value
 | .lit (.int k z)=> [.int k z]
 |_=> []
def bd:DataW Unit→List Value
 | .agg l=>l.flatMap be
 |d=>be d
def bH:DataW Unit→Array Value
 | .agg l=>(l.flatMap bd).toArray
 |d=>(bd d).toArray
def XD (d:DataW Unit):Obj→Obj
 | .cells _ t frozen=> .cells (bH d) t frozen
 |o=>o
def oG (b:Nat):Obj→Obj
 | .cells _ t frozen=> .cells #[.iface 323 (.pointer (some ⟨b,0,none⟩))] t frozen
 |o=>o
theorem OQ (os:Os):∃w0:World,w0.os=os∧(w0.forCall (fun _ _=>0) ⟨#[],#[.slice none 0 0,.slice none 0 0,.int .i64 0,.int .i64 0],[]⟩).variablesB Tryz.checked.prog=true∧
  ((w0.forCall (fun _ _=>0) ⟨#[],#[.slice none 0 0,.slice none 0 0,.int .i64 0,.int .i64 0],[]⟩).heap.toList.drop Tryz.checked.prog.globals.size).take ((begin Tryz.checked.prog (fun _ _=>0) default).world.heap.size-Tryz.checked.prog.globals.size)=
   (begin Tryz.checked.prog (fun _ _=>0) default).world.heap.toList.drop Tryz.checked.prog.globals.size∧
  Input.okWideB Tryz.checked.prog (w0.forCall (fun _ _=>0) ⟨#[],#[.slice none 0 0,.slice none 0 0,.int .i64 0,.int .i64 0],[]⟩) 9 ⟨#[],#[.slice none 0 0,.slice none 0 0,.int .i64 0,.int .i64 0],[]⟩=true∧
  laidMet Tryz.prog Rows.staysRow.laid (w0.forCall (fun _ _=>0) ⟨#[],#[.slice none 0 0,.slice none 0 0,.int .i64 0,.int .i64 0],[]⟩).memory:=
 ⟨{World.holding Tryz.prog os ⟨#[],#[],[]⟩with heap:=(((((((((World.holding Tryz.prog os ⟨#[],#[],[]⟩).heap.modify 1 (XD Rows.laid_internal_strconv_uint64pow10)).modify 2 (XD Rows.laid_unicode_utf8_first)).modify 3 (XD Rows.laid_unicode_utf8_acceptRanges)).modify 4 (oG 13)).modify 5 (oG 14)).modify 6 (XD Rows.laid_math_bits_deBruijn32tab)).modify 7 (XD Rows.laid_math_bits_deBruijn64tab)).push (.cells #[.string ⟨#[105,110,118,97,108,105,100,32,115,121,110,116,97,120]⟩] 325 (0,0))).push (.cells #[.string ⟨#[118,97,108,117,101,32,111,117,116,32,111,102,32,114,97,110,103,101]⟩] 325 (0,0))},
  rfl,by kernel_rfl,by kernel_rfl,by kernel_rfl,laidMet_of_run' 8 (by kernel_rfl) (by kernel_rfl)⟩
theorem b7 (w0:World){H:Type}(enc:TypeId×Value→H):DataW.whole enc Tryz.prog (w0.forCall (fun _ _=>0) ⟨#[],#[.slice none 0 0,.slice none 0 0,.int .i64 0,.int .i64 0],[]⟩).memory Tryz.f9.params.toList Rows.staysSpec.vars false (#[.slice none 0 0,.slice none 0 0,.int .i64 0,.int .i64 0]:Array Value).toList 8=some ([.nil,.nil,.lit (.int .i64 0),.lit (.int .i64 0)],[],[]):=by kernel_rfl
theorem own:ownKnob Tryz.prog.godebug=none:=by kernel_rfl
theorem UU (os:Os)(a0:os.Started)(H:Type)(enc:TypeId×Value→H)(F:Stop.Interp):
  ReturnsInLeavingWide {} Tryz.checked os 9 .any ((OpenSpec.ofChange Rows.staysSpec).preRow enc Tryz.prog Tryz.f9 Rows.staysRow.domain false Rows.staysRow.laid) (((OpenSpec.ofChange Rows.staysSpec).at F).post enc Tryz.prog Tryz.f9 false true false false):=by
 obtain⟨w0,ho,h1,h2,h3,h4⟩:=OQ os;refine Xi (C:=Tryz.checked) (s:=OpenSpec.ofChange Rows.staysSpec) own a0 Tryz.func9
  (witness_row_at (enc:=enc) (C:=Tryz.checked) false w0 #[.slice none 0 0,.slice none 0 0,.int .i64 0,.int .i64 0] ho h1 h2 h3
   (OpenSpec.preRow_of_cond 8 (b7 w0 enc) (by kernel_rfl) (fun k hk=>by cases hk) (by kernel_rfl) h4)) ?_
 intro W base args ds gs a1 a2 hW hc hL hS;exact Ow H enc W base args ds gs a1 a2 hW hL hS
theorem uM:joinedFacts Tryz.pinned.checked.prog 9 Tryz.f9 (OpenSpec.ofChange Rows.staysSpec).bare Rows.staysRow=true:=by
 unfold joinedFacts;simp only[Bool.and_eq_true];repeat' apply And.intro
 all_goals as_aux_lemma=>kernel_rfl
theorem fw:Rows.StaysSaid:=
 holds_of_cond_leaving 9 Tryz.f9 rfl rfl rfl rfl rfl rfl rfl ⟨rfl,rfl,rfl,rfl,rfl⟩ rfl rfl rfl rfl rfl (by as_aux_lemma=>kernel_rfl) Tryz.func9 uM
  (of_decide_eq_true (by as_aux_lemma=>kernel_rfl)) (by unfold Func.isWrapper;first|(rw[if_pos (by decide+kernel)];kernel_rfl)|(rw[if_neg (by decide+kernel)];exact⟨rfl,rfl⟩))
  (fun os a0 H enc _ F=>by rw[OpenClaim.pre_eq_preRow];exact UU os a0 H enc F)
theorem plain (f:FuncId)(fn:Func)(hf:Tryz.pinned.checked.prog.funcNamed "graft/graftkeep.Stays" =some f)(a0:Tryz.pinned.checked.prog.funcs[f]? =some fn):
  true=Tryz.pinned.checked.prog.looks []∧∀(j:Nat) t,fn.params[j]? =some t→Tryz.pinned.checked.prog.wantsStandIn t=false:=by
 obtain rfl:f=9:=Option.some.inj ((show Tryz.prog.funcNamed "graft/graftkeep.Stays" =some 9 by kernel_rfl).symm.trans hf)|>.symm;obtain rfl:fn=Tryz.f9:=(Option.some.inj (Tryz.func9.symm.trans a0)).symm;refine⟨by as_aux_lemma=>kernel_rfl,fun j t ht=> ?_⟩;rw[Tryz.params9]at ht;have a1 :t=25∨t=3:=by simpa using Array.mem_of_getElem? ht
 rcases a1 with rfl|rfl
 ·exact(show Tryz.prog.wantsStandIn 25=false by kernel_rfl)
 ·exact(show Tryz.prog.wantsStandIn 3=false by kernel_rfl)
theorem tied_goes (Lk:Looks){p:Pinned}{s:OpenSpec}{c:OpenClaim}(kinds:List LaidKind)(a0:Bool)(a1:Bool×String)(lk:Bool)
  (hc:c.holds p s)(hw:c.wfByText s=true)(a2:c.laidByTextAt Lk p kinds a0)
  (a4:c.start= .entering)(a3:c.noBlocks=false∧c.again=false)(hm:p.checked.prog.mainIs=some (a1.1,a1.2.toList))(hn:(!a1.1&&a1.2.isEmpty&& !lk)=false)
  (hl:∀f fn,p.checked.prog.funcNamed c.func=some f→p.checked.prog.funcs[f]? =some fn→lk=p.checked.prog.looks []∧∀(j:Nat) t,fn.params[j]? =some t→p.checked.prog.wantsStandIn t=false)
  (hg:true=c.goesBy p.checked.prog):
  Claim7.holds p (.plain s) {stood:={row:=c,standIns:=[],harness:=a1,looks:=lk},kinds:=[],alts:=[],goes:=true,laidByText:=true,laidKinds:=kinds,laidTests:=a0,laidLooks:=Lk}:=by
 have h6:Claim7.isSixth {stood:={row:=c,standIns:=[],harness:=a1,looks:=lk},kinds:=[]}=false:=by simpa[Claim7.isSixth]using hn
 exact⟨Claim7.tied_new_at Lk kinds a0 (Claim7.new_of_sixth hc a1 lk a4 a3 hm h6 hl) hw,fun D hD=>(by cases hD),a2,(fun h=>by cases h),hg⟩
theorem stays_full:Rows.StaysCardSaid:=
 tied_goes .later _ _ _ _ fw (by as_aux_lemma=>kernel_rfl) stays_row_tie rfl ⟨rfl,rfl⟩ (by as_aux_lemma=>kernel_rfl) rfl plain (by as_aux_lemma=>kernel_rfl)
#print axioms stays_full
