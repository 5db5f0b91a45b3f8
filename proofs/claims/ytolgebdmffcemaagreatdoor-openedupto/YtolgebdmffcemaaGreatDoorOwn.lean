/- THE CARD of graftkeep.Opened, the second form: where the arguments are of bulk at most 1048576, the call returns true and leaves them as they were (the tables of Go's library laid as the program's text lays them). -/
import Derived.Test.YtolgebdmffcemaaGreatDoorCards
import Derived.Test.YtolgebdmffcemaaGreatDoorTie
import Derived.Test.YtolgebdmffcemaaGreatDoorQ24
import Derived.ChangeMaps5
import Derived.LaidLaws
set_option linter.all false
set_option maxHeartbeats 20000000
set_option maxRecDepth 1000000
open Go renaming Value→eB
open Go.Proofs.Tryz renaming prog→sU,f11→P2,params11→P3,underlying3→N6,underlying9→H6,checked→P5,func11→P6
open Go.Frame renaming enter→iM
open Go.World renaming holding→P4
namespace Go.Proofs.YtolgebdmffcemaaGreatDoor
open Go Go.Conc Go.ChangeShapes Go.WideShapes Go.ChangeAt Go.RowKit
theorem oR (H:Type)(enc:TypeId×eB→H)(W:World)(base:Nat)(args:Array eB)(ds gs:List (DataW H))(a1:List MemPlace)
  (a0:∀(j:Nat) t v,Tryz.f11.params[j]? =some t→args[j]? =some v→Value.okWide sU W .any base t v)
  (hW:DataW.Whole enc sU Tryz.f11.params.toList Rows.openedSpec.vars false W args.toList ds gs a1)(hk:Rows.uptoSmall H (ds++gs)=true)
  (hL:laidMetH sU Rows.openedUptoRow.laid W)(hS:W.ShapedOpen sU):
  ∃M last o w' t',runNT sU (M+1) (solo (G (iM sU 11 args .normal) []) W) #[]=(.ended o w',t')∧runN sU M (solo (G (iM sU 11 args .normal) []) W)= .next last∧
   step sU last= .ended o w' ∧Conc.Good sU (fun v W' =>Rows.openedSpec.post enc sU P2 false true false false W args v W') last o w' t' :=by
 have a7 :=hW;obtain⟨p,q,a9,hV,rfl,c6,c7⟩:=hW;have hA:DataW.TrodAll enc sU W 0 (fun _=>true) true Tryz.f11.params.toList args.toList ds p:=a9;rw[P3]at hA a0;obtain⟨v0,c8,d0,b6,p0,q0,b3,rfl,rfl,h0,r0⟩:=trodAll_cons hA;obtain⟨v1,c9,d1,b7,p1,q1,a2,rfl,rfl,h1,r1⟩:=trodAll_cons r0;obtain⟨v2,d4,d2,b8,p2,q2,a3,rfl,rfl,h2,r2⟩:=trodAll_cons r1;obtain⟨v3,d5,d3,b9,p3,q3,a4,rfl,rfl,h3,r3⟩:=trodAll_cons r2;obtain⟨rfl,rfl,rfl⟩:=trodAll_nil r3;subst a4 a3 a2;obtain rfl:args= #[v0,v1,v2,v3]:=by cases args;simp_all
 obtain⟨rfl,rfl⟩:=trodVars_none hV;clear a9;obtain⟨n1,rfl,rfl,rfl,b1⟩:=open_int N6 (a0 1 3 v1 rfl rfl) h1;obtain⟨n2,rfl,rfl,rfl,b2⟩:=Go.ChangeMaps.open_string H6 (a0 2 9 v2 rfl rfl) h2;obtain⟨l,b5,hR⟩:=uc (a0 0 25 v0 rfl rfl) h0;obtain⟨l2,a8,b4⟩:=uc (a0 3 25 v3 rfl rfl) h3;have hb:=of_decide_eq_true hk;simp only[List.append_nil,List.cons_append,List.nil_append,Rows.uptoBulkAll,Rows.uptoBulk,Nat.add_zero]at hb;have hj:n2.data.toList.length≤1073741824:=by omega
 have hG:Zp W:=bE hL hS;obtain⟨M,last,o,w',t',k1,k2,k3,k4⟩:=Fa hG hG.size hR b5 n1 (XD b1) n2.data.toList hj b4 a8;refine⟨M,last,o,w',t',by simpa using k1,by simpa using k2,k3,uy k4 ?_⟩;rintro v ⟨rfl,hk⟩;have hg:=JM hk;have a5:∀x∈p0,x.block<W.heap.size:=fun x hx=>a7.lt x (by simp[hx])
 have a6:∀x∈p3,x.block<W.heap.size:=fun x hx=>a7.lt x (by simp[hx])
 refine⟨[d0,.lit (.int .i64 n1),.lit (.string n2.data.toList),d3],[],p0++([]++([]++(p3++ []))),[],p0++([]++([]++(p3++ []))),[],by simpa using a7,trodAll_cons_mk (shut_bool Tryz.underlying4 _) trodAll_mk0,?_,rfl,jU hg _,fun h=>by cases h⟩;exact trodAll_cons_mk (Go.WideElems.Trod_stays un vo fl h0 (fun x hx=>QZ hg (a5 x hx)) (fun x hx=>by simpa using a5 x hx)) (trodAll_cons_mk (shut_int N6 b1) (trodAll_cons_mk (Go.ChangeMaps.shut_string H6 b2) (trodAll_cons_mk (Go.WideElems.Trod_stays un vo fl h3 (fun x hx=>QZ hg (a6 x hx)) (fun x hx=>by simpa using a6 x hx)) trodAll_mk0)))
def dD:DataW Unit→List eB
 | .lit (.int k z)=> [.int k z]
 |_=> []
def dC:DataW Unit→List eB
 | .agg l=>l.flatMap dD
 |d=>dD d
def dZ:DataW Unit→Array eB
 | .agg l=>(l.flatMap dC).toArray
 |d=>(dC d).toArray
def XY (d:DataW Unit):Obj→Obj
 | .cells _ t frozen=> .cells (dZ d) t frozen
 |o=>o
def OL (b:Nat):Obj→Obj
 | .cells _ t frozen=> .cells #[.iface 323 (.pointer (some ⟨b,0,none⟩))] t frozen
 |o=>o
theorem Gd (os:Os):∃w0:World,w0.os=os∧(w0.forCall (fun _ _=>0) ⟨#[],#[.slice none 0 0,.int .i64 0,.string ⟨#[]⟩,.slice none 0 0],[]⟩).variablesB Tryz.checked.prog=true∧
  ((w0.forCall (fun _ _=>0) ⟨#[],#[.slice none 0 0,.int .i64 0,.string ⟨#[]⟩,.slice none 0 0],[]⟩).heap.toList.drop Tryz.checked.prog.globals.size).take ((begin Tryz.checked.prog (fun _ _=>0) default).world.heap.size-Tryz.checked.prog.globals.size)=
   (begin Tryz.checked.prog (fun _ _=>0) default).world.heap.toList.drop Tryz.checked.prog.globals.size∧
  Input.okWideB Tryz.checked.prog (w0.forCall (fun _ _=>0) ⟨#[],#[.slice none 0 0,.int .i64 0,.string ⟨#[]⟩,.slice none 0 0],[]⟩) 11 ⟨#[],#[.slice none 0 0,.int .i64 0,.string ⟨#[]⟩,.slice none 0 0],[]⟩=true∧
  laidMet sU Rows.openedUptoRow.laid (w0.forCall (fun _ _=>0) ⟨#[],#[.slice none 0 0,.int .i64 0,.string ⟨#[]⟩,.slice none 0 0],[]⟩).memory:=
 ⟨{P4 sU os ⟨#[],#[],[]⟩with heap:=(((((((((P4 sU os ⟨#[],#[],[]⟩).heap.modify 1 (XY Rows.laid_internal_strconv_uint64pow10)).modify 2 (XY Rows.laid_unicode_utf8_first)).modify 3 (XY Rows.laid_unicode_utf8_acceptRanges)).modify 4 (OL 13)).modify 5 (OL 14)).modify 6 (XY Rows.laid_math_bits_deBruijn32tab)).modify 7 (XY Rows.laid_math_bits_deBruijn64tab)).push (.cells #[.string ⟨#[105,110,118,97,108,105,100,32,115,121,110,116,97,120]⟩] 325 (0,0))).push (.cells #[.string ⟨#[118,97,108,117,101,32,111,117,116,32,111,102,32,114,97,110,103,101]⟩] 325 (0,0))},
  rfl,by kernel_rfl,by kernel_rfl,by kernel_rfl,laidMet_of_run' 8 (by kernel_rfl) (by kernel_rfl)⟩
theorem dx (w0:World){H:Type}(enc:TypeId×eB→H):DataW.whole enc sU (w0.forCall (fun _ _=>0) ⟨#[],#[.slice none 0 0,.int .i64 0,.string ⟨#[]⟩,.slice none 0 0],[]⟩).memory Tryz.f11.params.toList Rows.openedSpec.vars false (#[.slice none 0 0,.int .i64 0,.string ⟨#[]⟩,.slice none 0 0]:Array eB).toList 8=some ([.nil,.lit (.int .i64 0),.lit (.string []),.nil],[],[]):=by kernel_rfl
theorem own:ownKnob Tryz.prog.godebug=none:=by kernel_rfl
theorem UB (os:Os)(a0:os.Started)(H:Type)(enc:TypeId×eB→H)(F:Stop.Interp):
  ReturnsInLeavingWide {} P5 os 11 .any ((Rows.OpenSpec.upto Rows.openedSpec).preRow enc sU P2 Rows.openedUptoRow.domain false Rows.openedUptoRow.laid) (((Rows.OpenSpec.upto Rows.openedSpec).at F).post enc sU P2 false true false false):=by
 obtain⟨w0,ho,h1,h2,h3,h4⟩:=Gd os;refine XF (C:=P5) (s:=Rows.OpenSpec.upto Rows.openedSpec) own a0 P6
  (witness_row_at (enc:=enc) (C:=P5) false w0 #[.slice none 0 0,.int .i64 0,.string ⟨#[]⟩,.slice none 0 0] ho h1 h2 h3
   (OpenSpec.preRow_of_cond 8 (dx w0 enc) (by kernel_rfl) (fun k hk=>by cases hk;kernel_rfl) (by kernel_rfl) h4)) ?_
 intro W base args ds gs a1 a2 hW hc hL hS;exact oR H enc W base args ds gs a1 a2 hW (hc _ rfl) hL hS
theorem JG:joinedFacts Tryz.pinned.checked.prog 11 P2 (Rows.OpenSpec.upto Rows.openedSpec).bare Rows.openedUptoRow=true:=by
 unfold joinedFacts;simp only[Bool.and_eq_true];repeat' apply And.intro
 all_goals as_aux_lemma=>kernel_rfl
theorem c9:Rows.OpenedUptoSaid:=
 holds_of_cond_leaving 11 P2 rfl rfl rfl rfl rfl rfl rfl ⟨rfl,rfl,rfl,rfl,rfl⟩ rfl rfl rfl rfl rfl (by as_aux_lemma=>kernel_rfl) P6 JG
  (of_decide_eq_true (by as_aux_lemma=>kernel_rfl)) (by unfold Func.isWrapper;first|(rw[if_pos (by decide+kernel)];kernel_rfl)|(rw[if_neg (by decide+kernel)];exact⟨rfl,rfl⟩))
  (fun os a0 H enc _ F=>by rw[OpenClaim.pre_eq_preRow];exact UB os a0 H enc F)
theorem plain (f:FuncId)(fn:Func)(hf:Tryz.pinned.checked.prog.funcNamed "graft/graftkeep.Opened" =some f)(a0:Tryz.pinned.checked.prog.funcs[f]? =some fn):
  true=Tryz.pinned.checked.prog.looks []∧∀(j:Nat) t,fn.params[j]? =some t→Tryz.pinned.checked.prog.wantsStandIn t=false:=by
 obtain rfl:f=11:=Option.some.inj ((show Tryz.prog.funcNamed "graft/graftkeep.Opened" =some 11 by kernel_rfl).symm.trans hf)|>.symm;obtain rfl:fn=P2:=(Option.some.inj (Tryz.func11.symm.trans a0)).symm;refine⟨by as_aux_lemma=>kernel_rfl,fun j t ht=> ?_⟩;rw[P3]at ht;have a1 :t=25∨t=3∨t=9:=by
  have:=Array.mem_of_getElem? ht;simp at this;rcases this with h|h|h|h<;>first|exact .inl h|exact .inr (.inl h)|exact .inr (.inr h)
 rcases a1 with rfl|rfl|rfl
 ·exact(show Tryz.prog.wantsStandIn 25=false by kernel_rfl)
 ·exact(show Tryz.prog.wantsStandIn 3=false by kernel_rfl)
 ·exact(show Tryz.prog.wantsStandIn 9=false by kernel_rfl)
theorem tied_goes (Lk:Looks){p:Pinned}{s:OpenSpec}{c:OpenClaim}(kinds:List LaidKind)(a0:Bool)(a1:Bool×String)(lk:Bool)
  (hc:c.holds p s)(hw:c.wfByText s=true)(a2:c.laidByTextAt Lk p kinds a0)
  (a4:c.start= .entering)(a3:c.noBlocks=false∧c.again=false)(hm:p.checked.prog.mainIs=some (a1.1,a1.2.toList))(hn:(!a1.1&&a1.2.isEmpty&& !lk)=false)
  (hl:∀f fn,p.checked.prog.funcNamed c.func=some f→p.checked.prog.funcs[f]? =some fn→lk=p.checked.prog.looks []∧∀(j:Nat) t,fn.params[j]? =some t→p.checked.prog.wantsStandIn t=false)
  (hg:true=c.goesBy p.checked.prog):
  Claim7.holds p (.plain s) {stood:={row:=c,standIns:=[],harness:=a1,looks:=lk},kinds:=[],alts:=[],goes:=true,laidByText:=true,laidKinds:=kinds,laidTests:=a0,laidLooks:=Lk}:=by
 have h6:Claim7.isSixth {stood:={row:=c,standIns:=[],harness:=a1,looks:=lk},kinds:=[]}=false:=by simpa[Claim7.isSixth]using hn
 exact⟨Claim7.tied_new_at Lk kinds a0 (Claim7.new_of_sixth hc a1 lk a4 a3 hm h6 hl) hw,fun D hD=>(by cases hD),a2,(fun h=>by cases h),hg⟩
theorem opened_upto:Rows.OpenedUptoCardSaid:=
 tied_goes .later _ _ _ _ c9 (by as_aux_lemma=>kernel_rfl) openedUpto_row_tie rfl ⟨rfl,rfl⟩ (by as_aux_lemma=>kernel_rfl) rfl plain (by as_aux_lemma=>kernel_rfl)
#print axioms opened_upto
