/- THE CARD of graftkeep.Bagged: for every three numbers the call returns true (the tables of Go's library laid as the program's text lays them). -/
import Derived.Test.YtolgebdmffcemaaGreatDoorCards
import Derived.Test.YtolgebdmffcemaaGreatDoorTie
import Derived.Test.YtolgebdmffcemaaGreatDoorQ32
import Derived.LaidLaws
set_option linter.all false
set_option maxHeartbeats 20000000
set_option maxRecDepth 1000000
namespace Go.Proofs.YtolgebdmffcemaaGreatDoor
open Go Go.Conc Go.ChangeShapes Go.WideShapes Go.ChangeAt Go.RowKit
theorem GJ {W:World}(h:laidMetH Tryz.prog Rows.baggedRow.laid W)(hs:W.ShapedOpen Tryz.prog):ZL W:=by
 refine⟨Tryz.laysM146.s1_3 W hs,?_,?_⟩
 ·have h1:=(jC h (by kernel_rfl)).tail.tail
  exact Lib.tabIs_of_head (zs:=Lib.pow10Tab) uR j6 Tryz.underlying298 Tryz.underlying278 gC gD h1
 ·have h1:=jC h (by kernel_rfl)
  obtain⟨ps,⟨_,_,_,_,_,_,_,_,_,_,⟨g,t,cs,a0,p,q,hg,ht,hv,_,_,_⟩,_⟩,_⟩:=h1;obtain rfl:(7:Nat)=g:=Option.some.inj (jI.symm.trans hg);simp only[World.var?,jI,Option.bind_some]at hv;rcases Nat.lt_or_ge 7 W.heap.size with h' |h'
  ·omega
  ·rw[Array.getElem?_eq_none h']at hv
   cases hv
theorem JD {w w' :World}(h:zh w w'):cO w.heap.size w w' :=⟨h.os,h.output,h.size,fun b hb=>h.block b hb⟩
theorem KU (c:Int)(h1: -9223372036854775808≤c)(h2:c≤9223372036854775807):∃f:Nat,f<32∧∀W:World,Calls Tryz.prog 25 #[.int .i64 c,.int .i64 32] W fun e w' =>e= .returned (.int .i64 f)∧w' =W:=by
 have hp:=Gg c 32 (by decide);refine⟨(Q9 c 32).toNat,by omega,fun W=> ?_⟩;have:=FW c 32 W h1 h2 (by decide) (by decide);rw[show(((Q9 c 32).toNat:Nat):Int)=Q9 c 32 by omega];exact this
theorem uk (H:Type)(enc:TypeId×Value→H)(W:World)(base:Nat)(args:Array Value)(ds gs:List (DataW H))(a1:List MemPlace)
  (a0:∀(j:Nat) t v,Tryz.f8.params[j]? =some t→args[j]? =some v→Value.okWide Tryz.prog W .any base t v)
  (hW:DataW.Whole enc Tryz.prog Tryz.f8.params.toList Rows.baggedSpec.vars false W args.toList ds gs a1)
  (hL:laidMetH Tryz.prog Rows.baggedRow.laid W)(hS:W.ShapedOpen Tryz.prog):
  ∃M last o w' t',runNT Tryz.prog (M+1) (solo (G (Frame.enter Tryz.prog 8 args .normal) []) W) #[]=(.ended o w',t')∧runN Tryz.prog M (solo (G (Frame.enter Tryz.prog 8 args .normal) []) W)= .next last∧
   step Tryz.prog last= .ended o w' ∧Conc.Good Tryz.prog (fun v W' =>Rows.baggedSpec.post enc Tryz.prog Tryz.f8 false true false false W args v W') last o w' t' :=by
 have a6 :=hW;obtain⟨p,q,a4,hV,rfl,b3,b4⟩:=hW;have hA:DataW.TrodAll enc Tryz.prog W 0 (fun _=>true) true Tryz.f8.params.toList args.toList ds p:=a4;rw[Tryz.params8]at hA a0;obtain⟨v0,b5,d0,a7,p0,q0,a5,rfl,rfl,h0,r0⟩:=trodAll_cons hA;obtain⟨v1,b6,d1,a8,p1,q1,a2,rfl,rfl,h1,r1⟩:=trodAll_cons r0;obtain⟨v2,b7,d2,a9,p2,q2,a3,rfl,rfl,h2,r2⟩:=trodAll_cons r1;obtain⟨rfl,rfl,rfl⟩:=trodAll_nil r2;subst a3 a2;obtain rfl:args= #[v0,v1,v2]:=by cases args;simp_all
 obtain⟨rfl,rfl⟩:=trodVars_none hV;clear a4;obtain⟨n0,rfl,rfl,rfl,b0⟩:=open_int Tryz.underlying3 (a0 0 3 v0 rfl rfl) h0;obtain⟨n1,rfl,rfl,rfl,b1⟩:=open_int Tryz.underlying3 (a0 1 3 v1 rfl rfl) h1;obtain⟨n2,rfl,rfl,rfl,b2⟩:=open_int Tryz.underlying3 (a0 2 3 v2 rfl rfl) h2;obtain⟨f,hf,pf⟩:=KU n0 (YY b0).1 (YY b0).2;obtain⟨x,hx,px⟩:=KU n1 (YY b1).1 (YY b1).2;obtain⟨y,hy,py⟩:=KU n2 (YY b2).1 (YY b2).2;have hG:ZL W:=GJ hL hS;obtain⟨M,last,o,w',t',k1,k2,k3,k4⟩:=gt hG hG.size n0 n1 n2 f x y hf hx hy pf px py (R.bagF f x y hf hx hy);refine⟨M,last,o,w',t',k1,k2,k3,jH k4 ?_⟩;rintro v ⟨rfl,hk⟩;have hg:=JD hk;refine⟨[.lit (.int .i64 n0),.lit (.int .i64 n1),.lit (.int .i64 n2)],[],[],[],[],[],by simpa using a6,trodAll_cons_mk (shut_bool Tryz.underlying4 _) trodAll_mk0,?_,rfl,Ky hg _,fun h=>by cases h⟩;exact trodAll_cons_mk (shut_int Tryz.underlying3 b0) (trodAll_cons_mk (shut_int Tryz.underlying3 b1) (trodAll_cons_mk (shut_int Tryz.underlying3 b2) trodAll_mk0))
def c_:DataW Unit→List Value
 | .lit (.int k z)=> [.int k z]
 |_=> []
def cZ:DataW Unit→List Value
 | .agg l=>l.flatMap c_
 |d=>c_ d
def Co:DataW Unit→Array Value
 | .agg l=>(l.flatMap cZ).toArray
 |d=>(cZ d).toArray
def Xj (d:DataW Unit):Obj→Obj
 | .cells _ t frozen=> .cells (Co d) t frozen
 |o=>o
def Ul (b:Nat):Obj→Obj
 | .cells _ t frozen=> .cells #[.iface 323 (.pointer (some ⟨b,0,none⟩))] t frozen
 |o=>o
theorem oE (os:Os):∃w0:World,w0.os=os∧(w0.forCall (fun _ _=>0) ⟨#[],#[.int .i64 0,.int .i64 0,.int .i64 0],[]⟩).variablesB Tryz.checked.prog=true∧
  ((w0.forCall (fun _ _=>0) ⟨#[],#[.int .i64 0,.int .i64 0,.int .i64 0],[]⟩).heap.toList.drop Tryz.checked.prog.globals.size).take ((begin Tryz.checked.prog (fun _ _=>0) default).world.heap.size-Tryz.checked.prog.globals.size)=
   (begin Tryz.checked.prog (fun _ _=>0) default).world.heap.toList.drop Tryz.checked.prog.globals.size∧
  Input.okWideB Tryz.checked.prog (w0.forCall (fun _ _=>0) ⟨#[],#[.int .i64 0,.int .i64 0,.int .i64 0],[]⟩) 8 ⟨#[],#[.int .i64 0,.int .i64 0,.int .i64 0],[]⟩=true∧
  laidMet Tryz.prog Rows.baggedRow.laid (w0.forCall (fun _ _=>0) ⟨#[],#[.int .i64 0,.int .i64 0,.int .i64 0],[]⟩).memory:=
 ⟨{World.holding Tryz.prog os ⟨#[],#[],[]⟩with heap:=(((((((((World.holding Tryz.prog os ⟨#[],#[],[]⟩).heap.modify 1 (Xj Rows.laid_internal_strconv_uint64pow10)).modify 2 (Xj Rows.laid_unicode_utf8_first)).modify 3 (Xj Rows.laid_unicode_utf8_acceptRanges)).modify 4 (Ul 13)).modify 5 (Ul 14)).modify 6 (Xj Rows.laid_math_bits_deBruijn32tab)).modify 7 (Xj Rows.laid_math_bits_deBruijn64tab)).push (.cells #[.string ⟨#[105,110,118,97,108,105,100,32,115,121,110,116,97,120]⟩] 325 (0,0))).push (.cells #[.string ⟨#[118,97,108,117,101,32,111,117,116,32,111,102,32,114,97,110,103,101]⟩] 325 (0,0))},
  rfl,by kernel_rfl,by kernel_rfl,by kernel_rfl,laidMet_of_run' 8 (by kernel_rfl) (by kernel_rfl)⟩
theorem cV (w0:World){H:Type}(enc:TypeId×Value→H):DataW.whole enc Tryz.prog (w0.forCall (fun _ _=>0) ⟨#[],#[.int .i64 0,.int .i64 0,.int .i64 0],[]⟩).memory Tryz.f8.params.toList Rows.baggedSpec.vars false (#[.int .i64 0,.int .i64 0,.int .i64 0]:Array Value).toList 8=some ([.lit (.int .i64 0),.lit (.int .i64 0),.lit (.int .i64 0)],[],[]):=by kernel_rfl
theorem own:ownKnob Tryz.prog.godebug=none:=by kernel_rfl
theorem Jm (os:Os)(a0:os.Started)(H:Type)(enc:TypeId×Value→H)(F:Stop.Interp):
  ReturnsInLeavingWide {} Tryz.checked os 8 .any ((OpenSpec.ofChange Rows.baggedSpec).preRow enc Tryz.prog Tryz.f8 Rows.baggedRow.domain false Rows.baggedRow.laid) (((OpenSpec.ofChange Rows.baggedSpec).at F).post enc Tryz.prog Tryz.f8 false true false false):=by
 obtain⟨w0,ho,h1,h2,h3,h4⟩:=oE os;refine xV (C:=Tryz.checked) (s:=OpenSpec.ofChange Rows.baggedSpec) own a0 Tryz.func8
  (witness_row_at (enc:=enc) (C:=Tryz.checked) false w0 #[.int .i64 0,.int .i64 0,.int .i64 0] ho h1 h2 h3
   (OpenSpec.preRow_of_cond 8 (cV w0 enc) (by kernel_rfl) (fun k hk=>by cases hk) (by kernel_rfl) h4)) ?_
 intro W base args ds gs a1 a2 hW hc hL hS;exact uk H enc W base args ds gs a1 a2 hW hL hS
theorem jb:joinedFacts Tryz.pinned.checked.prog 8 Tryz.f8 (OpenSpec.ofChange Rows.baggedSpec).bare Rows.baggedRow=true:=by
 unfold joinedFacts;simp only[Bool.and_eq_true];repeat' apply And.intro
 all_goals as_aux_lemma=>kernel_rfl
theorem G6:Rows.BaggedSaid:=
 holds_of_cond_leaving 8 Tryz.f8 rfl rfl rfl rfl rfl rfl rfl ⟨rfl,rfl,rfl,rfl,rfl⟩ rfl rfl rfl rfl rfl (by as_aux_lemma=>kernel_rfl) Tryz.func8 jb
  (of_decide_eq_true (by as_aux_lemma=>kernel_rfl)) (by unfold Func.isWrapper;first|(rw[if_pos (by decide+kernel)];kernel_rfl)|(rw[if_neg (by decide+kernel)];exact⟨rfl,rfl⟩))
  (fun os a0 H enc _ F=>by rw[OpenClaim.pre_eq_preRow];exact Jm os a0 H enc F)
theorem plain (f:FuncId)(fn:Func)(hf:Tryz.pinned.checked.prog.funcNamed "graft/graftkeep.Bagged" =some f)(a0:Tryz.pinned.checked.prog.funcs[f]? =some fn):
  true=Tryz.pinned.checked.prog.looks []∧∀(j:Nat) t,fn.params[j]? =some t→Tryz.pinned.checked.prog.wantsStandIn t=false:=by
 obtain rfl:f=8:=Option.some.inj ((show Tryz.prog.funcNamed "graft/graftkeep.Bagged" =some 8 by kernel_rfl).symm.trans hf)|>.symm;obtain rfl:fn=Tryz.f8:=(Option.some.inj (Tryz.func8.symm.trans a0)).symm;refine⟨by as_aux_lemma=>kernel_rfl,fun j t ht=> ?_⟩;rw[Tryz.params8]at ht;obtain rfl:t=3:=by simpa using Array.mem_of_getElem? ht
 exact(show Tryz.prog.wantsStandIn 3=false by kernel_rfl)
theorem tied_goes (Lk:Looks){p:Pinned}{s:OpenSpec}{c:OpenClaim}(kinds:List LaidKind)(a0:Bool)(a1:Bool×String)(lk:Bool)
  (hc:c.holds p s)(hw:c.wfByText s=true)(a2:c.laidByTextAt Lk p kinds a0)
  (a4:c.start= .entering)(a3:c.noBlocks=false∧c.again=false)(hm:p.checked.prog.mainIs=some (a1.1,a1.2.toList))(hn:(!a1.1&&a1.2.isEmpty&& !lk)=false)
  (hl:∀f fn,p.checked.prog.funcNamed c.func=some f→p.checked.prog.funcs[f]? =some fn→lk=p.checked.prog.looks []∧∀(j:Nat) t,fn.params[j]? =some t→p.checked.prog.wantsStandIn t=false)
  (hg:true=c.goesBy p.checked.prog):
  Claim7.holds p (.plain s) {stood:={row:=c,standIns:=[],harness:=a1,looks:=lk},kinds:=[],alts:=[],goes:=true,laidByText:=true,laidKinds:=kinds,laidTests:=a0,laidLooks:=Lk}:=by
 have h6:Claim7.isSixth {stood:={row:=c,standIns:=[],harness:=a1,looks:=lk},kinds:=[]}=false:=by simpa[Claim7.isSixth]using hn
 exact⟨Claim7.tied_new_at Lk kinds a0 (Claim7.new_of_sixth hc a1 lk a4 a3 hm h6 hl) hw,fun D hD=>(by cases hD),a2,(fun h=>by cases h),hg⟩
theorem bagged_full:Rows.BaggedCardSaid:=
 tied_goes .later _ _ _ _ G6 (by as_aux_lemma=>kernel_rfl) bagged_row_tie rfl ⟨rfl,rfl⟩ (by as_aux_lemma=>kernel_rfl) rfl plain (by as_aux_lemma=>kernel_rfl)
#print axioms bagged_full
