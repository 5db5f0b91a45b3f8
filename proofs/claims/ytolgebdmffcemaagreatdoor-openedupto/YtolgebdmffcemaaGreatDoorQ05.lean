import Derived.Test.YtolgebdmffcemaaGreatDoorQ04
import Derived.Conc.CompanyCalls
import Derived.Conc.CompanyDraw
import Derived.Conc.DeferLaws
import Derived.Conc.PipeGen
import Derived.Conc.Quits
import Derived.Tactics
import Derived.OrdersHeld
set_option linter.all false
set_option maxHeartbeats 20000000
set_option maxRecDepth 1000000
open Go renaming World→eX,Program→eA,Goroutine→eZ,Frame→iK,Exit→mH,Operand→mM,undef→lS,Value→eB,Question→iC
open Nat renaming strongRecOn→mN,le_refl→iA,mod_lt→mQ,lt_or_ge→mX,lt_of_lt_of_le→lY,add_assoc→iF,add_comm→nD,zero_add→lQ
open List renaming range→mO,reverse_singleton→mR,singleton_append→mS,mem_append_left→mT,mem_filterMap→mU,append_nil→nB,range'→nC,range'_succ→nE,range_eq_range'→nF,range'_append_1→nG,getElem?_take→nH,getElem?_drop→nI
open Array renaming replicate→mL,mem_toList_iff→mV,mem_append→mW,getElem?_eq_none→mY,setIfInBounds_comm→mZ,getElem?_eq_some_iff→lE
open Go.Frame renaming finish_at→mI,enter→iM
open Bool renaming true_or→mP
open Go.Builtin renaming close_→nA
open Go.Proofs.YtolgebdmffcemaaGreatDoor renaming re→mG
namespace Go.Proofs.YtolgebdmffcemaaGreatDoor
open Go Go.Conc
def RA (Old A:Blk):eX→eX→Prop:=Rel Old A
def DA (Old A:Blk):eX→eX→Array Event→Prop:=fun w w' es=>yQ Old A A w w' es
theorem Xm (Old A:Blk):Terms (RA Old A) (DA Old A):=⟨fun _ _ _ h k=>Rel.trans h k,fun w=>yQ.idle Old A w⟩
section
variable {P:eA}{main:Bool}{Old A:Blk}{Stop:eZ→eX→Prop}{g:eZ}{w:eX}
end
def Qu (P:eA)(main:Bool)(Old:Blk)(Z:Blk→eZ→eX→Prop)(b:iK)(k:List Item)(cs:List iK):mH→Blk→Act→eX→Prop
 | .normal,A,a,w=>OW P main Old Z A (G (b.at a k) cs) w
 | .exit id,A,a,w=>∃k',exitTo id k=some k' ∧OW P main Old Z A (G (b.at a k') cs) w
 | .ret,A,a,w=>∀todo,OW P main Old Z A (G {b.at a todo with mode:= .returning} cs) w
 |_,_,_,_=>False
def wpO (P:eA)(main:Bool)(Old:Blk)(fn:FuncId)(c:Code)(Q:mH→Blk→Act→eX→Prop)(A:Blk)(a:Act)(w:eX):Prop:=
 ∀(b:iK) (k:List Item) (cs:List iK) (Z:Blk→eZ→eX→Prop),b.fn=fn→b.kind≠ .early→(∀e A' a' w',Q e A' a' w' →Qu P main Old Z b k cs e A' a' w')→OW P main Old Z A (G (b.at a (.code c::k)) cs) w
def Yv (P:eA)(main:Bool)(Old:Blk)(fn:FuncId)(ops:Array Oper)(todo:List Nat)(Q:mH→Blk→Act→eX→Prop)(A:Blk)(a:Act)(w:eX):Prop:=
 ∀(b:iK) (k:List Item) (cs:List iK) (Z:Blk→eZ→eX→Prop),b.fn=fn→b.kind≠ .early→(∀e A' a' w',Q e A' a' w' →Qu P main Old Z b k cs e A' a' w')→OW P main Old Z A (G (b.at a (.inRegion ops todo::k)) cs) w
def zM (next:Blk→Act→eX→Prop)(Q:mH→Blk→Act→eX→Prop):mH→Blk→Act→eX→Prop
 | .normal,A,a,w=>next A a w
 |e,A,a,w=>Q e A a w
def ZD (id:Nat)(Q:mH→Blk→Act→eX→Prop):mH→Blk→Act→eX→Prop
 | .exit id',A,a,w=>if id' =id then Q .normal A a w else Q (.exit id') A a w
 |e,A,a,w=>Q e A a w
section
variable {P:eA}{main:Bool}{Old A:Blk}{fn:FuncId}{Q Q' :mH→Blk→Act→eX→Prop}{a:Act}{w:eX}
theorem Qu.push {Z:Blk→eZ→eX→Prop}{b:iK}{x:Item}{k:List Item}{cs:List iK}{e:mH}{A:Blk}{a:Act}{w:eX}(hx:x.plain=true)(he:e≠ .normal)(h:Qu P main Old Z b k cs e A a w):Qu P main Old Z b (x::k) cs e A a w:=by
 cases e with
 |normal=>exact absurd rfl he
 |exit id=>obtain⟨k',hk,hg⟩:=h;exact⟨k',by cases x<;>simp_all [exitTo,Item.plain],hg⟩
 |ret=>exact h
 |goto l=>exact h
 |panic ch=>exact h
 |outgrown=>exact h
theorem oA {c:Code}(h:wpO P main Old fn c Q A a w)(hq:∀e A a w,Q e A a w→Q' e A a w):wpO P main Old fn c Q' A a w:=fun b k cs Z hb hk hc=>h b k cs Z hb hk fun e A' a' w' q=>hc e A' a' w' (hq _ _ _ _ q)
theorem fQ {ops:Array Oper}{l:List Nat}{w1:eX}(h:Yv P main Old fn ops l Q A a w)(hr:Rel Old A w w1):Yv P main Old fn ops l Q A a w1:=fun b k cs Z hb hk hc=>(h b k cs Z hb hk hc).rely hr
theorem wpO_seq {x y:Code}(h:wpO P main Old fn x (zM (wpO P main Old fn y Q) Q) A a w):wpO P main Old fn (.seq x y) Q A a w:=by
 intro b k cs Z hb hk hc;refine OW.ctl rfl (fun w=>stepG_seq) (h b (.code y::k) cs Z hb hk fun e A' a' w' q=> ?_)
 cases e with
 |normal=>exact q b k cs Z hb hk hc
 |exit id=>exact(hc _ _ _ _ q).push rfl (by simp)
 |ret=>exact(hc _ _ _ _ q).push (x:= .code y) rfl (by simp)
 |goto l=>exact hc _ _ _ _ q
 |panic ch=>exact hc _ _ _ _ q
 |outgrown=>exact hc _ _ _ _ q
theorem Vj {x y:Code}(M:Blk→Act→eX→Prop)(hx:wpO P main Old fn x (zM M Q) A a w)(hy:∀A' a' w',M A' a' w' →wpO P main Old fn y Q A' a' w'):wpO P main Old fn (.seq x y) Q A a w:=
 wpO_seq (oA hx fun e A' a' w' q=>by cases e<;>first|exact hy _ _ _ q|exact q)
theorem Zm {c:mM}{x y:Code}{t:Bool}(hc:a.eval c= .bool t)(h:wpO P main Old fn (if t then x else y) Q A a w):wpO P main Old fn (.cond c x y) Q A a w:=
 fun b k cs Z hb hk hq=>OW.ctl rfl (fun w=>stepG_cond hc) (h b k cs Z hb hk hq)
theorem Yz {id:Nat}{c:Code}(h:wpO P main Old fn c (ZD id Q) A a w):wpO P main Old fn (.block id c) Q A a w:=by
 intro b k cs Z hb hk hc;refine OW.ctl rfl (fun w=>stepG_block) (h b (.inBlock id::k) cs Z hb hk fun e A' a' w' q=> ?_)
 cases e with
 |normal=>exact OW.ctl rfl (fun w=>stepG_inBlock) (hc _ _ _ _ q)
 |exit a1 =>
  by_cases a0:a1 =id
  ·simp only[ZD,a0,if_true]at q
   exact⟨k,by simp[exitTo,a0],hc _ _ _ _ q⟩
  ·simp only[ZD,a0,if_false]at q
   obtain⟨k',a2,hg⟩:=hc _ _ _ _ q;have:(id==a1)=false:=by simp;exact fun h=>a0 h.symm
   exact⟨k',by simp[exitTo,this,a2],hg⟩
 |ret=>exact hc _ _ _ _ q
 |goto l=>exact hc _ _ _ _ q
 |panic ch=>exact hc _ _ _ _ q
 |outgrown=>exact hc _ _ _ _ q
theorem yu (h:Q .normal A a w):wpO P main Old fn .skip Q A a w:=fun b k cs Z hb hk hc=>OW.ctl rfl (fun w=>stepG_skip) (hc _ _ _ _ h)
theorem KX (h:Q .ret A a w):wpO P main Old fn .ret Q A a w:=fun b k cs Z hb hk hc=>OW.ctl rfl (fun w=>stepG_ret') (hc _ _ _ _ h _)
theorem jl {id:Nat}(h:Q (.exit id) A a w):wpO P main Old fn (.exit id) Q A a w:=fun b k cs Z hb hk hc=>by
 obtain⟨k',a0,ht⟩:=hc _ _ _ _ h;exact OW.ctl rfl (fun w=>stepG_exit a0) ht
theorem jk {c:Code}(I:Blk→Act→eX→Prop)(μ:Blk→Act→eX→Nat)(h₀:I A a w)(round:∀A a w,I A a w→wpO P main Old fn c (zM (fun A' a' w' =>I A' a' w' ∧μ A' a' w' <μ A a w) Q) A a w):wpO P main Old fn (.loop c) Q A a w:=by
 intro b k cs Z hb hk hc;have key:∀n A a w,μ A a w=n→I A a w→OW P main Old Z A (G (b.at a (.code c:: .inLoop c::k)) cs) w:=by
  intro n;induction n using mN with
  |_ n ih=>
   intro A a w hn hI;refine round A a w hI b (.inLoop c::k) cs Z hb hk fun e A' a' w' q=> ?_
   cases e with
   |normal=>exact OW.ctl rfl (fun w=>stepG_inLoop) (ih (μ A' a' w') (hn▸q.2) A' a' w' rfl q.1)
   |exit id=>exact(hc _ _ _ _ q).push rfl (by simp)
   |ret=>exact(hc _ _ _ _ q).push (x:= .inLoop c) rfl (by simp)
   |goto l=>exact hc _ _ _ _ q
   |panic ch=>exact hc _ _ _ _ q
   |outgrown=>exact hc _ _ _ _ q
 exact OW.ctl rfl (fun w=>stepG_loop) (key _ A a w rfl h₀)
theorem zl {id:Nat}{ops:Array Oper}(h:Yv P main Old fn ops (mO ops.size) Q A a w):wpO P main Old fn (.region id ops false) Q A a w:=
 fun b k cs Z hb hk hc=>OW.ctl rfl (fun w=>stepG_region) (h b k cs Z hb hk hc)
theorem zp {ops:Array Oper}(h:Q .normal A a w):Yv P main Old fn ops [] Q A a w:=fun b k cs Z hb hk hc=>OW.ctl rfl (fun w=>stepG_region_end) (hc _ _ _ _ h)
theorem opsO_cons {ops:Array Oper}{i:Nat}{rest:List Nat}{o:Oper}(ho:ops[i]? =some o)(hw:Region.wanted o (yielded ops a.tmps)=true)
  (h:∀w1,Rel Old A w w1→∃v w' A',((execOp a.eval o).run P w1= .ok (.value v) w' ∨((execOp a.eval o).run P w1= .ok .skip w' ∧v=lS))∧yQ Old A A' w1 w' (listed P fn a o w1)∧Yv P main Old fn ops rest Q A' (a.put o.dst v) w'):Yv P main Old fn ops (i::rest) Q A a w:=by
 intro b k cs Z hb hk hc;refine OW.one rfl fun w1 h1=> ?_
 obtain⟨v,w',A',hr,hG,hn⟩:=h w1 h1;refine⟨G (b.at (a.put o.dst v) (.inRegion ops rest::k)) cs,w',listed P b.fn a o w1,A',?_,hb▸hG,hn b k cs Z hb hk hc⟩;rcases hr with hr|⟨hr,rfl⟩
 ·exact stepG_value ho hw hk hr
 ·exact stepG_none ho hw hk hr
theorem zJ {ops:Array Oper}{i:Nat}{rest:List Nat}{o:Oper}(ho:ops[i]? =some o)(hw:Region.wanted o (yielded ops a.tmps)=true)
  (h:∀w1,Rel Old A w w1→∀K:Act→eX→Prop,(∀a' w' A',yQ Old A A' w1 w' (listed P fn a o w1)→Yv P main Old fn ops rest Q A' a' w' →K a' w')→uponK o a K ((execOp a.eval o).run P w1)):Yv P main Old fn ops (i::rest) Q A a w:=by
 refine opsO_cons ho hw fun w1 h1=> ?_
 have:=h w1 h1 (fun a' w' =>∃A',yQ Old A A' w1 w' (listed P fn a o w1)∧Yv P main Old fn ops rest Q A' a' w') (fun a' w' A' hg hn=>⟨A',hg,hn⟩);revert this
 cases(execOp a.eval o).run P w1 with
 |ok x w' =>
  cases x with
  |value v=>exact fun⟨A',hg,hn⟩=>⟨v,w',A',.inl rfl,hg,hn⟩
  |skip=>exact fun⟨A',hg,hn⟩=>⟨lS,w',A',.inr ⟨rfl,rfl⟩,hg,hn⟩
  |_=>exact fun h=>h.elim
 |halt x w' =>exact fun h=>h.elim
theorem Jq {ops:Array Oper}{i:Nat}{rest:List Nat}{o:Oper}(ho:ops[i]? =some o)(hw:Region.wanted o (yielded ops a.tmps)=false)(h:Yv P main Old fn ops rest Q A (a.put o.dst lS) w):Yv P main Old fn ops (i::rest) Q A a w:=
 fun b k cs Z hb hk hc=>OW.ctl rfl (fun w=>stepG_unwanted ho hw) (h b k cs Z hb hk hc)
theorem opsO_pure {ops:Array Oper}{i:Nat}{rest:List Nat}{o:Oper}{v:eB}(ho:ops[i]? =some o)(hw:Region.wanted o (yielded ops a.tmps)=true)(hr:∀W,(execOp a.eval o).run P W= .ok (.value v) W)(he:∀W,(execOp a.eval o).events P W #[]= #[])(hn:Yv P main Old fn ops rest Q A (a.put o.dst v) w):Yv P main Old fn ops (i::rest) Q A a w:=
 opsO_cons ho hw fun w1 h1=>⟨v,w1,A,.inl (hr w1),by rw[show listed P fn a o w1= #[]from by unfold listed;rw[he];exact seen_none P fn];exact yQ.idle _ _ _,fQ hn h1⟩
def uN (P:eA)(fn:Func)(Post:Blk→eB→eX→Prop):mH→Blk→Act→eX→Prop
 | .normal,A,a,w| .ret,A,a,w=>a.defers=[]∧∃v,ResultsC P fn a.tmps v∧Post A v w
 |_,_,_,_=>False
def yH (P:eA)(main:Bool)(Old:Blk)(f:FuncId)(args:Array eB)(A:Blk)(w:eX)(Post:Blk→eB→eX→Prop):Prop:=
 ∃fn c,P.funcs[f]? =some fn∧(fn.name== "runtime.NumGoroutine")=false∧fn.body=some c∧wpO P main Old f c (uN P fn Post) A {tmps:=args++mL (fn.ntmps-args.size) lS,defers:=[]} w
theorem yZ {f:FuncId}{fn:Func}{c:Code}{args:Array eB}{Post:Blk→eB→eX→Prop}(hf:P.funcs[f]? =some fn)(a0:(fn.name== "runtime.NumGoroutine")=false)(hb:fn.body=some c)
  (h:wpO P main Old f c (uN P fn Post) A {tmps:=args++mL (fn.ntmps-args.size) lS,defers:=[]} w):yH P main Old f args A w Post:=⟨fn,c,hf,a0,hb,h⟩
theorem yH.mono {f:FuncId}{args:Array eB}{Post a0 :Blk→eB→eX→Prop}(h:yH P main Old f args A w Post)(hp:∀A v w,Post A v w→a0 A v w):yH P main Old f args A w a0 :=by
 obtain⟨fn,c,hf,hn,hb,hw⟩:=h;refine⟨fn,c,hf,hn,hb,oA hw fun e A a w q=> ?_⟩
 cases e<;>first|exact⟨q.1,q.2.choose,q.2.choose_spec.1,hp _ _ _ q.2.choose_spec.2⟩|exact q
theorem opsO_call {ops:Array Oper}{i:Nat}{rest:List Nat}{o:Oper}{f:FuncId}{args:Array mM}{b1:Array TypeId}{Post:Blk→eB→eX→Prop}(ho:ops[i]? =some o)(hw:Region.wanted o (yielded ops a.tmps)=true)(a9:o.op= .call {callee:= .value (.func f),args,argTypes:=b1})
  (a4:yH P main Old f (args.map a.eval) A w Post)(a5:∀A' v w',Post A' v w' →Yv P main Old fn ops rest Q A' (a.put o.dst v) w'):Yv P main Old fn ops (i::rest) Q A a w:=by
 intro b k cs Z hb hk hc;obtain⟨a6,c,hf,a2,a1,b2⟩:=a4;have a7:∀v,(b.at a (.inRegion ops (i::rest)::k)).finish v=b.at (a.put o.dst v) (.inRegion ops rest::k):=fun v=>by rw[mI,ho];rfl
 have a0:∀(A' :Blk) (a' :Act) (w' :eX) (todo:List Item),(a'.defers=[]∧∃v,ResultsC P a6 a'.tmps v∧Post A' v w')→
   OW P main Old Z A' (G {(base f).at a' todo with mode:= .returning} (b.at a (.inRegion ops (i::rest)::k)::cs)) w' :=by
  rintro A' a' w' todo ⟨hd,v,hr,hp⟩;refine OW.ctl (g' :=G (b.at (a.put o.dst v) (.inRegion ops rest::k)) cs) rfl (fun w1=> ?_) (a5 A' v w' hp b k cs Z hb hk hc);rw[stepG_leave (b:=base f) rfl hd hf (hr w1).1 (hr w1).2,a7]
 have a3:OW P main Old Z A (G ((base f).at {tmps:=args.map a.eval++mL (a6.ntmps-(args.map a.eval).size) lS,defers:=[]} [.code c]) (b.at a (.inRegion ops (i::rest)::k)::cs)) w:=by
  refine b2 (base f) [] _ Z rfl (by simp[base]) fun e A' a' w' q=> ?_
  cases e with
  |normal=>exact OW.ctl rfl (fun w=>stepG_end) (a0 A' a' w' [] q)
  |ret=>exact fun todo=>a0 A' a' w' todo q
  |exit id=>exact q.elim
  |goto l=>exact q.elim
  |panic ch=>exact q.elim
  |outgrown=>exact q.elim
 refine OW.ctl rfl (fun w1=> ?_) a3;have a8 :a6.body.isNone=false:=by rw[a1];rfl
 rw[stepG_enter ho hw hk (run_call_body a9 hf a2 a8),enter_at _ hf a1];unfold listed;rw[events_call_body a9 hf a2 a8];rw[seen_none]
theorem xR {ops:Array Oper}{i:Nat}{rest:List Nat}{o:Oper}{f:FuncId}{args:Array mM}{a2:Array TypeId}{vals:Array eB}{Post:Blk→eB→eX→Prop}(ho:ops[i]? =some o)(hw:Region.wanted o (yielded ops a.tmps)=true)(a3:o.op= .call {callee:= .value (.func f),args,argTypes:=a2})(hv:args.map a.eval=vals)
  (a0:yH P main Old f vals A w Post)(a1:∀A' v w',Post A' v w' →Yv P main Old fn ops rest Q A' (a.put o.dst v) w'):Yv P main Old fn ops (i::rest) Q A a w:=
 opsO_call ho hw a3 (hv▸a0) a1
end
theorem cI {Old A:Blk}:LetsDraw (DA Old A):=fun w=>⟨rfl,rfl,rfl,iA _,fun _ h=>h,fun _ h=> .inl h,fun _ _ _=>rfl,by simp⟩
theorem Xp {Old A:Blk}(w:eX):RA Old A w {w with drawn:=w.drawn+1}:=⟨rfl,rfl,rfl,iA _,fun _ _=>rfl⟩
section
variable {P:eA}{main:Bool}{Old A:Blk}{fn:FuncId}{ops:Array Oper}{Q:mH→Blk→Act→eX→Prop}{md:Region.Mode}{a:Act}{w:eX}
def Go_ (P:eA)(main:Bool)(Old:Blk)(fn:FuncId)(md:Region.Mode)(ops:Array Oper)(Q:mH→Blk→Act→eX→Prop)(fuel:Nat)(listed:Array Bool)(A:Blk)(a:Act)(w:eX):Prop:=
 ∀t,Yv P main Old fn ops (Region.linearise.go md ops fuel t listed []) Q A a w
theorem wpO_region_draw {id:Nat}(hm:P.follows .mixedOrders=true)(h:∀w1,Rel Old A w w1→Go_ P main Old fn .any ops Q ops.size (mL ops.size false) A a {w1 with drawn:=w1.drawn+1}):wpO P main Old fn (.region id ops true) Q A a w:=by
 intro b k cs Z hb hk hc;refine OW.one rfl fun w1 h1=>⟨_,_,_,A,stepG_region_draw,cI w1,?_⟩
 have:=h w1 h1 (w1.tape w1.drawn (.order b.fn id)) b k cs Z hb hk hc;simp only[Region.schedule,hm,mP,if_true];exact this
theorem cV {a0:Array Bool}(hr:Region.ready md ops a0=[])(h:Q .normal A a w):∀a1,Go_ P main Old fn md ops Q a1 a0 A a w
 |0=>fun t=>by simpa[Region.linearise.go]using zp h
 |f+1=>fun t=>by
  simp only[Region.linearise.go];change Yv P main Old fn ops (match(Region.ready md ops a0)[t % (Region.ready md ops a0).length]? with
   |some i=>Region.linearise.go md ops f (t/(Region.ready md ops a0).length) (a0.setIfInBounds i true) [i]
   |none=> [].reverse) Q A a w
  rw[hr];exact zp h
theorem BN {rs:List Nat}{a1:Nat}{a0:Array Bool}(hr:Region.ready md ops a0=rs)(a4:rs≠ [])(h:∀i∈rs,∀t,Yv P main Old fn ops (i::Region.linearise.go md ops a1 t (a0.setIfInBounds i true) []) Q A a w):Go_ P main Old fn md ops Q (a1+1) a0 A a w:=by
 intro t;have a2:0<rs.length:=List.length_pos_iff.2 a4;have a3:t % rs.length<rs.length:=mQ _ a2;simp only[Region.linearise.go];change Yv P main Old fn ops (match(Region.ready md ops a0)[t % (Region.ready md ops a0).length]? with
  |some i=>Region.linearise.go md ops a1 (t/(Region.ready md ops a0).length) (a0.setIfInBounds i true) [i]
  |none=> [].reverse) Q A a w
 rw[hr,List.getElem?_eq_getElem a3];simp only[];rw[linearise_go_acc,mR,mS];exact h _ (List.getElem_mem a3) _
theorem O6 {i:Nat}{rest:List Nat}(h:OpC P (RA Old A) (DA Old A) fn ops i (fun a' w' =>Yv P main Old fn ops rest Q A a' w') a w):Yv P main Old fn ops (i::rest) Q A a w:=by
 unfold OpC at h;split at h
 ·exact h.elim
 ·rename_i o ho
  split at h
  ·rename_i hw
   refine zJ ho hw fun w1 h1 K hK=> ?_
   exact uponK_mono (fun a' w' x=>hK a' w' A x.1 x.2) (h w1 h1)
  ·rename_i hw
   exact Jq ho (by simpa using hw) h
theorem z8 {i:Nat}{rest:List Nat}{o:Oper}{v:eB}(ho:ops[i]? =some o)(hw:Region.wanted o (yielded ops a.tmps)=true)(hv:∀(W:eX) (K:Result Next→Prop),K (.ok (.value v) W)→K ((execOp a.eval o).run P W))(he:∀W:eX,(execOp a.eval o).events P W #[]= #[])(hn:Yv P main Old fn ops rest Q A (a.put o.dst v) w):Yv P main Old fn ops (i::rest) Q A a w:=
 opsO_pure ho hw (fun W=>hv W (·= .ok (.value v) W) rfl) he hn
def OpX (P:eA)(main:Bool)(Old A:Blk)(fn:FuncId)(ops:Array Oper)(i:Nat)(K:Act→eX→Prop)(a:Act)(w:eX):Prop:=
 OpC P (RA Old A) (DA Old A) fn ops i K a w∨∃(o:Oper) (f:FuncId) (args:Array mM) (ats:Array TypeId) (Post:eB→eX→Prop),ops[i]? =some o∧Region.wanted o (yielded ops a.tmps)=true∧o.op= .call {callee:= .value (.func f),args,argTypes:=ats}∧
  yH P main Old f (args.map a.eval) A w (fun A' v w' =>A' =A∧Post v w')∧∀v w',Post v w' →K (a.put o.dst v) w'
theorem gA {i:Nat}{K K' :Act→eX→Prop}(h:∀a w,K a w→K' a w)(hh:OpX P main Old A fn ops i K a w):OpX P main Old A fn ops i K' a w:=by
 rcases hh with hh|⟨o,f,args,a0,Post,h1,h2,h3,h4,h5⟩
 ·exact .inl (OpC_mono h hh)
 ·exact .inr ⟨o,f,args,a0,Post,h1,h2,h3,h4,fun v w' hp=>h _ _ (h5 v w' hp)⟩
theorem O5 {i:Nat}{rest:List Nat}(h:OpX P main Old A fn ops i (fun a' w' =>Yv P main Old fn ops rest Q A a' w') a w):Yv P main Old fn ops (i::rest) Q A a w:=by
 rcases h with h|⟨o,f,args,a0,Post,h1,h2,h3,h4,h5⟩
 ·exact O6 h
 ·exact opsO_call h1 h2 h3 h4 fun A' v w' ⟨e,hp⟩=>by subst e;exact h5 v w' hp
theorem VT (args:Array mM)(a:Act)(a0:Option Tmp)(v:eB)(h:∀d,a0=some d→∀x∈args,x≠ .tmp d):args.map (a.put a0 v).eval=args.map a.eval:=by
 apply Array.map_congr_left;intro x hx;exact Act.eval_put fun d hd a1=>h d hd x hx a1
def Cw (ops:Array Oper)(o:Oper)(a a' :Act):Prop:=execOp a'.eval o=execOp a.eval o∧Region.wanted o (yielded ops a'.tmps)=Region.wanted o (yielded ops a.tmps)
theorem FB {j:Nat}{oi oj:Oper}{v:eB}(hj:ops[j]? =some oj)(a1:oi.apart ops oj=true)(a2:∀cs b,oi.op≠ .select cs b)(a3:∀cs b,oj.op≠ .select cs b){K:Act→eX→Prop}
  (h:OpX P main Old A fn ops j K (a.put oi.dst v) w):OpX P main Old A fn ops j (fun a' w' =>Cw ops oi a a' ∧K (a'.put oi.dst v) w') a w:=by
 obtain⟨p1,p2,p3⟩:=Oper.apart_spec a1;have keep:∀u,Cw ops oi a (a.put oj.dst u):=fun u=>⟨execOp_put oi a2 a oj.dst u p3,wanted_put oi a oj.dst u p3⟩
 rcases h with h|⟨o,f,args,a0,Post,h1,h2,h3,h4,h5⟩
 ·left
  unfold OpC at*;simp only[hj]at*;rw[wanted_put oj a oi.dst v p1]at h;split
  ·rename_i hw
   simp only[hw,if_true]at h;intro w1 r1;have h:=h w1 r1;unfold listed at*;rw[execOp_put oj a3 a oi.dst v p1]at h;generalize(execOp a.eval oj).run P w1=r at*
   cases r with
   |ok n w' =>
    cases n<;>simp only[uponK]at h⊢
    case value u=>exact⟨h.1,keep u,by rw[←Act.put_comm a v u p2];exact h.2⟩
    case skip=>exact⟨h.1,keep _,by rw[←Act.put_comm a v lS p2];exact h.2⟩
   |halt x w' =>simp only[uponK]at h
  ·rename_i hw
   simp only[hw]at h;exact⟨keep _,by rw[←Act.put_comm a v lS p2];exact h⟩
 ·rw[hj]at h1
  obtain rfl:=Option.some.inj h1;refine .inr ⟨oj,f,args,a0,Post,hj,by rw[←wanted_put oj a oi.dst v p1];exact h2,h3,?_,fun u w' hp=>⟨keep u,by rw[←Act.put_comm a v u p2];exact h5 u w' hp⟩⟩;rw[VT]at h4
  ·exact h4
  ·intro d hd x hx e
   subst e;refine p1 d hd (mT _ (mU.2 ⟨.tmp d,?_,rfl⟩));simp only[h3,Op.operands,Call.operands];exact mV.2 (mW.2 (.inr hx))
def Yu (P:eA)(main:Bool)(Old A:Blk)(fn:FuncId)(md:Region.Mode)(ops:Array Oper)(Q:mH→Blk→Act→eX→Prop):Nat→Array Bool→Act→eX→Prop
 |0,listed,a,w=>Region.ready md ops listed=[]∧∀w1,RA Old A w w1→Q .normal A a w1
 |n+1,listed,a,w=>(Region.ready md ops listed=[]→∀w1,RA Old A w w1→Q .normal A a w1)∧∀w1,RA Old A w w1→∀i∈Region.ready md ops listed,OpX P main Old A fn ops i (fun a' w' =>Yu P main Old A fn md ops Q n (listed.setIfInBounds i true) a' w') a w1
theorem Yu.rely:∀{n:Nat} {a0:Array Bool} {a:Act} {w w1:eX},Yu P main Old A fn md ops Q n a0 a w→RA Old A w w1→Yu P main Old A fn md ops Q n a0 a w1
 |0,a0,a,w,w1,h,r=>⟨h.1,fun w2 h2=>h.2 w2 (r.trans h2)⟩
 |n+1,a0,a,w,w1,h,r=>⟨fun e w2 h2=>h.1 e w2 (r.trans h2),fun w2 h2=>h.2 w2 (r.trans h2)⟩
theorem Yu.go:∀{n:Nat} {a0:Array Bool} {a:Act} {w:eX},Yu P main Old A fn md ops Q n a0 a w→Go_ P main Old fn md ops Q n a0 A a w
 |0,a0,a,w,h=>cV h.1 (h.2 w (Rel.refl _ _ _)) 0
 |n+1,a0,a,w,h=>by
  by_cases hr:Region.ready md ops a0=[]
  ·exact cV hr (h.1 hr w (Rel.refl _ _ _)) _
  ·exact BN rfl hr fun i hi t=>O5 (gA (fun a' w' x=>Yu.go x t) (h.2 w (Rel.refl _ _ _) i hi))
abbrev Be (P:eA)(Old A:Blk)(fn:FuncId)(ops:Array Oper)(o:Oper)(v:eB)(a:Act):Prop:=YieldsIfC P (DA Old A) fn ops (fun _=>True) o v a
theorem Yu.first {i:Nat}{oi:Oper}{v:eB}(hi:ops[i]? =some oi)(a4:∀(j:Nat) (o:Oper) cs b,ops[j]? =some o→o.op≠ .select cs b):
  ∀(n:Nat) (a0:Array Bool) (a:Act) (w:eX),
   (∀j oj,ops[j]? =some oj→j≠i→a0.getD j true=false→(∀e∈oj.after,Region.binds md e=true→e.on≠i)→oi.apart ops oj=true)→
   i∈Region.ready md ops a0→Be P Old A fn ops oi v a→
   Yu P main Old A fn md ops Q n (a0.setIfInBounds i true) (a.put oi.dst v) w→Yu P main Old A fn md ops Q (n+1) a0 a w:=by
 intro n;induction n with
 |zero=>
  intro a0 a w _ hr hy H;refine⟨fun h=>(by rw[h]at hr;cases hr),fun w1 h1 j hj=> ?_⟩;by_cases a2:j=i
  ·subst a2
   exact .inl (hy.opC (fun _ _ _ _=>trivial) hi (fun a x y h r=>h.rely r) trivial (H.rely h1))
  ·have:=ready_mono hj a2
   rw[H.1]at this
   cases this
 |succ n ih=>
  intro a0 a w a1 hr hy H;refine⟨fun h=>(by rw[h]at hr;cases hr),fun w1 h1 j hj=> ?_⟩;by_cases a2:j=i
  ·subst a2
   exact .inl (hy.opC (fun _ _ _ _=>trivial) hi (fun a x y h r=>h.rely r) trivial (H.rely h1))
  ·have h2:=H.2 w1 h1 j (ready_mono hj a2)
   obtain⟨a3,oj,a7,a5⟩:=mem_ready.1 hj;have a6:∀e∈oj.after,Region.binds md e=true→e.on≠i:=fun e he hb b1=>by
    have h3:=a5 e he hb;have h0:=(mem_ready.1 hr).1;rw[b1]at h3;rcases mX i a0.size with h' |h'
    ·simp[h']at h0 h3;rw[h0]at h3;cases h3
    ·simp[mY h']at h3
   have h4:=FB a7 (a1 j oj a7 a2 a3 a6) (fun cs b=>a4 i oi cs b hi) (fun cs b=>a4 j oj cs b a7) h2;refine gA (fun a' w' h5=> ?_) h4;obtain⟨h6,h8⟩:=h5;rw[mZ _ _ (Ne.symm a2)]at h8;refine ih (a0.setIfInBounds j true) a' w' (fun k ok hk b2 a9 b3=> ?_) (ready_mono hr (Ne.symm a2)) (hy.of_same h6.1 h6.2) h8;refine a1 k ok hk b2 ?_ b3;by_cases a8:j=k
   ·subst a8;exact a3
   ·rw[getD_set_ne true a8]at a9;exact a9
theorem any_take {i:Nat}{oi:Oper}{v:eB}{n:Nat}{a0:Array Bool}(hi:ops[i]? =some oi)(hs:Region.noSelect ops=true)(hf:Region.free md ops a0 i=true)(hr:(Region.ready md ops a0).contains i=true)
  (hy:Be P Old A fn ops oi v a)(h:Yu P main Old A fn md ops Q n (a0.setIfInBounds i true) (a.put oi.dst v) w):Yu P main Old A fn md ops Q (n+1) a0 a w:=
 Yu.first hi (Region.noSelect_spec hs) n a0 a w (Region.free_spec hi hf) (by simpa using hr) hy h
theorem zd {i:Nat}{oi:Oper}{v:eB}{n:Nat}{a0:Array Bool}(hi:ops[i]? =some oi)(hs:Region.noSelect ops=true)(hf:Region.free md ops a0 i=true)(hr:(Region.ready md ops a0).contains i=true)(hw:Region.wanted oi (yielded ops a.tmps)=true)
  (hv:∀(W:eX) (K:Result Next→Prop),K (.ok (.value v) W)→K ((execOp a.eval oi).run P W))(he:∀W:eX,(execOp a.eval oi).events P W #[]= #[])(h:Yu P main Old A fn md ops Q n (a0.setIfInBounds i true) (a.put oi.dst v) w):Yu P main Old A fn md ops Q (n+1) a0 a w:=
 any_take hi hs hf hr (.inl ⟨hw,fun W _=>⟨hv W (·= .ok (.value v) W) rfl,by rw[show Conc.listed P fn a oi W= #[]from by unfold Conc.listed;rw[he];exact seen_none P fn];exact yQ.idle _ _ _⟩⟩) h
theorem z_ {i:Nat}{oi:Oper}{n:Nat}{a0:Array Bool}(hi:ops[i]? =some oi)(hs:Region.noSelect ops=true)(hf:Region.free md ops a0 i=true)(hr:(Region.ready md ops a0).contains i=true)(hw:Region.wanted oi (yielded ops a.tmps)=false)
  (h:Yu P main Old A fn md ops Q n (a0.setIfInBounds i true) (a.put oi.dst lS) w):Yu P main Old A fn md ops Q (n+1) a0 a w:=
 any_take hi hs hf hr (.inr ⟨hw,rfl⟩) h
theorem any_all {rs:List Nat}{n:Nat}{a0:Array Bool}(hr:Region.ready md ops a0=rs)(a1:rs≠ [])(h:∀w1,RA Old A w w1→∀i∈rs,OpX P main Old A fn ops i (fun a' w' =>Yu P main Old A fn md ops Q n (a0.setIfInBounds i true) a' w') a w1):Yu P main Old A fn md ops Q (n+1) a0 a w:=
 ⟨fun h0=>absurd (hr▸h0) a1,fun w1 h1 i hi=>h w1 h1 i (hr▸hi)⟩
theorem qn {i:Nat}{n:Nat}{a0:Array Bool}{o:Oper}(ho:ops[i]? =some o)(hw:Region.wanted o (yielded ops a.tmps)=true)
  (h:∀w1,RA Old A w w1→∀K:Act→eX→Prop,(∀a' w',DA Old A w1 w' (Conc.listed P fn a o w1)→Yu P main Old A fn md ops Q n (a0.setIfInBounds i true) a' w' →K a' w')→uponK o a K ((execOp a.eval o).run P w1)):
  OpX P main Old A fn ops i (fun a' w' =>Yu P main Old A fn md ops Q n (a0.setIfInBounds i true) a' w') a w:=by
 refine .inl ?_;unfold OpC;simp only[ho,hw,if_true];exact fun w2 h2=>h w2 h2 _ fun a' w' hd hn=>⟨hd,hn⟩
theorem zR {i:Nat}{n:Nat}{a0:Array Bool}{o:Oper}(hr:Region.ready md ops a0=[i])(ho:ops[i]? =some o)(hw:Region.wanted o (yielded ops a.tmps)=true)
  (h:∀w1,RA Old A w w1→∀K:Act→eX→Prop,(∀a' w',DA Old A w1 w' (Conc.listed P fn a o w1)→Yu P main Old A fn md ops Q n (a0.setIfInBounds i true) a' w' →K a' w')→uponK o a K ((execOp a.eval o).run P w1)):Yu P main Old A fn md ops Q (n+1) a0 a w:=
 any_all hr (by simp) fun w1 h1 j hj=>by
  obtain rfl:j=i:=by simpa using hj
  exact qn ho hw fun w2 h2=>h w2 (h1.trans h2)
theorem any_call {i:Nat}{n:Nat}{a0:Array Bool}{o:Oper}{f:FuncId}{args:Array mM}{a1:Array TypeId}{Post:eB→eX→Prop}(hr:Region.ready md ops a0=[i])(ho:ops[i]? =some o)(hw:Region.wanted o (yielded ops a.tmps)=true)(a2:o.op= .call {callee:= .value (.func f),args,argTypes:=a1})
  (hc:∀w1,RA Old A w w1→yH P main Old f (args.map a.eval) A w1 (fun A' v w' =>A' =A∧Post v w'))(hn:∀v w',Post v w' →Yu P main Old A fn md ops Q n (a0.setIfInBounds i true) (a.put o.dst v) w'):Yu P main Old A fn md ops Q (n+1) a0 a w:=
 any_all hr (by simp) fun w1 h1 j hj=>by
  obtain rfl:j=i:=by simpa using hj
  exact .inr ⟨o,f,args,a1,Post,ho,hw,a2,hc w1 h1,hn⟩
theorem uT {i:Nat}{n:Nat}{a0:Array Bool}{o:Oper}{f:FuncId}{args:Array mM}{a1:Array TypeId}{vals:Array eB}{Post:eB→eX→Prop}(hr:Region.ready md ops a0=[i])(ho:ops[i]? =some o)(hw:Region.wanted o (yielded ops a.tmps)=true)(a2:o.op= .call {callee:= .value (.func f),args,argTypes:=a1})(hv:args.map a.eval=vals)
  (hc:∀w1,RA Old A w w1→yH P main Old f vals A w1 (fun A' v w' =>A' =A∧Post v w'))(hn:∀v w',Post v w' →Yu P main Old A fn md ops Q n (a0.setIfInBounds i true) (a.put o.dst v) w'):Yu P main Old A fn md ops Q (n+1) a0 a w:=
 any_call hr ho hw a2 (hv▸hc) hn
theorem y_ {a0:Array Bool}(hr:Region.ready md ops a0=[])(h:∀w1,RA Old A w w1→Q .normal A a w1):∀n,Yu P main Old A fn md ops Q n a0 a w
 |0=>⟨hr,h⟩
 |_+1=>⟨fun _=>h,fun w1 h1 i hi=>by rw[hr]at hi;cases hi⟩
theorem Xk {id:Nat}(hm:P.follows .mixedOrders=true)(h:∀w1,Rel Old A w w1→Yu P main Old A fn .any ops Q ops.size (mL ops.size false) a {w1 with drawn:=w1.drawn+1}):wpO P main Old fn (.region id ops true) Q A a w:=
 wpO_region_draw hm fun w1 h1=>(h w1 h1).go
end
def XC (P:eA):iK:={(default:iK)with fn:=P.funcs.size,defers:=[],mode:= .panicking [goexitEntry]}
section
variable {P:eA}{main:Bool}{f:FuncId}{fn:Func}{args:Array eB}{c:Code}{w:eX}
theorem gL (hf:P.funcs[f]? =some fn)(a0:(fn.name== "runtime.NumGoroutine")=false)(hb:fn.body=some c):
  stepG P main (born P (dcall f args)) w= .go (G ((baseD f).at {tmps:=args++mL (fn.ntmps-args.size) lS,defers:=[]} [.code c]) [XC P]) w #[]:=by
 have h1:¬fn.name= "runtime.NumGoroutine" :=by simpa using a0
 rw[←enter_atD args hf hb];simp[born,G,stepG,unwind,callDeferred,dcall,invoke,callFunc,hf,h1,hb,GStep.after,seen_none,XC]
def XA (ats:Array TypeId)(ty:TypeId)(cs:Array Bool)(ch:Nat):Deferred:={target:= .builtin .close ats ty cs,args:= #[.chan (some ch)]}
section
variable {b:iK}{a:Act}{k:List Item}{cs:List iK}{ops:Array Oper}{i:Nat}{rest:List Nat}{o:Oper}
theorem Vr {x:mM}{a0:Array TypeId}{ch:Nat}(ho:ops[i]? =some o)(hw:Region.wanted o (yielded ops a.tmps)=true)(hk:b.kind≠ .early)
  (a2:o.op= .defer {callee:= .builtin .close,args:= #[x],argTypes:=a0})(hx:a.eval x= .chan (some ch)):
  ∃ty bs,∀w,stepG P main (G (b.at a (.inRegion ops (i::rest)::k)) cs) w= .go (G (b.at (Act.put ⟨a.tmps,XA a0 ty bs ch::a.defers⟩ o.dst lS) (.inRegion ops rest::k)) cs) w #[]:=by
 refine⟨o.type,(#[x]:Array mM).map fun| .const _=>true|_=>false,fun w=> ?_⟩;have hr:(execOp a.eval o).run P w= .ok (.defer (XA a0 o.type ((#[x]:Array mM).map fun| .const _=>true|_=>false) ch)) w:=by
  unfold execOp;simp[a2,resolve,XA,hx]
  cases x<;>rfl
 have he:(execOp a.eval o).events P w #[]= #[]:=by
  unfold execOp;simp[a2,resolve]
 have a1:(b.at ⟨a.tmps,XA a0 o.type ((#[x]:Array mM).map fun| .const _=>true|_=>false) ch::a.defers⟩ (.inRegion ops (i::rest)::k)).finish lS=b.at (Act.put ⟨a.tmps,XA a0 o.type ((#[x]:Array mM).map fun| .const _=>true|_=>false) ch::a.defers⟩ o.dst lS) (.inRegion ops rest::k):=by rw[mI,ho];rfl
 have a3 :(b.kind==CallKind.early)=false:=by simpa using hk
 rw[stepG_oper ho hw,←a1];simp[stepG.apply,hr,he,G,Frame.at,a3,GStep.after,seen_none]
theorem vt {a0:Array TypeId}{ty:TypeId}{bs:Array Bool}{ch s r:Nat}{tm:Bool}{todo:List Item}(hd:a.defers=[XA a0 ty bs ch])(hc:w.heap[ch]? =some (.chan 0 #[] false s r tm))(hq:(P.funcs[b.fn]?).any (·.norace)=false):
  stepG P main (G {b.at a todo with mode:= .returning} cs) w= .go (G {b.at ⟨a.tmps,[]⟩ todo with mode:= .returning} cs) (w.shut ch s r tm) #[⟨.obj ch,false,true⟩,⟨.obj ch,true,true⟩]:=by
 have hr:(nA a0 ty #[.chan (some ch)]).run P w= .ok (.tuple #[]) (w.shut ch s r tm):=run_close_open _ _ hc;have he:(nA a0 ty #[.chan (some ch)]).events P w #[]= #[⟨.obj ch,false,true⟩,⟨.obj ch,true,true⟩]:=events_close_open _ _ hc;have hs:seen P b.fn #[⟨.obj ch,false,true⟩,⟨.obj ch,true,true⟩]= #[⟨.obj ch,false,true⟩,⟨.obj ch,true,true⟩]:=seen_eq hq (by simp);have h2:(invoke (.builtin .close a0 ty bs) #[.chan (some ch)]).run P w= .ok (.value (.tuple #[])) (w.shut ch s r tm):=by
  simp[invoke,builtin,go_sem,hr]
 have h3:(invoke (.builtin .close a0 ty bs) #[.chan (some ch)]).events P w #[]= #[⟨.obj ch,false,true⟩,⟨.obj ch,true,true⟩]:=by
  simp[invoke,builtin,go_sem,he]
 simp[G,stepG,unwind,callDeferred,Frame.at,hd,XA,h2,h3,GStep.after,hs]
theorem oX {b:iK}{todo:List Item}{tmps:Array eB}(hn:b.kind= .deferred)(hf:P.funcs[b.fn]? =some fn)(hr:fn.results= #[]):QuitsIn P 2 (G {b.at ⟨tmps,[]⟩ todo with mode:= .returning} [XC P]):=by
 refine .ctl (g' :=G (XC P) []) rfl (fun w=> ?_) (.ctl (g' :={G (XC P) []with status:= .finished}) rfl (fun w=> ?_) rfl)
 ·have h1:=results_none hr tmps P w
  have h2:=events_results_none (P:=P) (w:=w) hr tmps;simp[G,stepG,unwind,doReturn,Frame.at,hn,hf,h1,h2,XC,goexitEntry,seen,GStep.after]
 ·simp[G,stepG,unwind,XC,goexitEntry,Frame.catches]
  rfl
end
end
section
variable (P:eA)(main:Bool)(Old:Blk)(St:List eB→Blk→eZ→eX→Prop)(fn:FuncId)
def wpS (c:Code)(Q:mH→List eB→Blk→Act→eX→Prop)(vs:List eB)(A:Blk)(a:Act)(w:eX):Prop:=
 ∀(b:iK) (k:List Item) (cs:List iK),b.fn=fn→b.kind≠ .early→(∀e vs' A' a' w',Q e vs' A' a' w' →Qu P main Old (St vs') b k cs e A' a' w')→OW P main Old (St vs) A (G (b.at a (.code c::k)) cs) w
def gu (ops:Array Oper)(todo:List Nat)(Q:mH→List eB→Blk→Act→eX→Prop)(vs:List eB)(A:Blk)(a:Act)(w:eX):Prop:=
 ∀(b:iK) (k:List Item) (cs:List iK),b.fn=fn→b.kind≠ .early→(∀e vs' A' a' w',Q e vs' A' a' w' →Qu P main Old (St vs') b k cs e A' a' w')→OW P main Old (St vs) A (G (b.at a (.inRegion ops todo::k)) cs) w
end
def yS (next:List eB→Blk→Act→eX→Prop)(Q:mH→List eB→Blk→Act→eX→Prop):mH→List eB→Blk→Act→eX→Prop
 | .normal,vs,A,a,w=>next vs A a w
 |e,vs,A,a,w=>Q e vs A a w
def yl (id:Nat)(Q:mH→List eB→Blk→Act→eX→Prop):mH→List eB→Blk→Act→eX→Prop
 | .exit id',vs,A,a,w=>if id' =id then Q .normal vs A a w else Q (.exit id') vs A a w
 |e,vs,A,a,w=>Q e vs A a w
section
variable {P:eA}{main:Bool}{Old A:Blk}{St:List eB→Blk→eZ→eX→Prop}{fn:FuncId}{Q Q' :mH→List eB→Blk→Act→eX→Prop}{vs:List eB}{a:Act}{w:eX}
theorem qg {c:Code}{R:mH→Blk→Act→eX→Prop}(h:wpO P main Old fn c R A a w)(hq:∀e A a w,R e A a w→Q e vs A a w):wpS P main Old St fn c Q vs A a w:=
 fun b k cs hb hk hc=>h b k cs (St vs) hb hk fun e A' a' w' q=>hc e vs A' a' w' (hq e A' a' w' q)
theorem wpS_seq {x y:Code}(h:wpS P main Old St fn x (yS (wpS P main Old St fn y Q) Q) vs A a w):wpS P main Old St fn (.seq x y) Q vs A a w:=by
 intro b k cs hb hk hc;refine OW.ctl rfl (fun w=>stepG_seq) (h b (.code y::k) cs hb hk fun e a0 A' a' w' q=> ?_)
 cases e with
 |normal=>exact q b k cs hb hk hc
 |exit id=>exact(hc _ _ _ _ _ q).push rfl (by simp)
 |ret=>exact(hc _ _ _ _ _ q).push (x:= .code y) rfl (by simp)
 |goto l=>exact hc _ _ _ _ _ q
 |panic ch=>exact hc _ _ _ _ _ q
 |outgrown=>exact hc _ _ _ _ _ q
theorem ov {x y:Code}(M:Blk→Act→eX→Prop)(hx:wpO P main Old fn x (zM M fun e A a w=>Q e vs A a w) A a w)(hy:∀A' a' w',M A' a' w' →wpS P main Old St fn y Q vs A' a' w'):wpS P main Old St fn (.seq x y) Q vs A a w:=
 wpS_seq (qg hx fun e A' a' w' q=>by cases e<;>first|exact hy _ _ _ q|exact q)
theorem Vi {c:mM}{x y:Code}{t:Bool}(hc:a.eval c= .bool t)(h:wpS P main Old St fn (if t then x else y) Q vs A a w):wpS P main Old St fn (.cond c x y) Q vs A a w:=
 fun b k cs hb hk hq=>OW.ctl rfl (fun w=>stepG_cond hc) (h b k cs hb hk hq)
theorem JO {id:Nat}{c:Code}(h:wpS P main Old St fn c (yl id Q) vs A a w):wpS P main Old St fn (.block id c) Q vs A a w:=by
 intro b k cs hb hk hc;refine OW.ctl rfl (fun w=>stepG_block) (h b (.inBlock id::k) cs hb hk fun e a3 A' a' w' q=> ?_)
 cases e with
 |normal=>exact OW.ctl rfl (fun w=>stepG_inBlock) (hc _ _ _ _ _ q)
 |exit a1 =>
  by_cases a0:a1 =id
  ·simp only[yl,a0,if_true]at q
   exact⟨k,by simp[exitTo,a0],hc _ _ _ _ _ q⟩
  ·simp only[yl,a0,if_false]at q
   obtain⟨k',a2,hg⟩:=hc _ _ _ _ _ q;have:(id==a1)=false:=by simp;exact fun h=>a0 h.symm
   exact⟨k',by simp[exitTo,this,a2],hg⟩
 |ret=>exact hc _ _ _ _ _ q
 |goto l=>exact hc _ _ _ _ _ q
 |panic ch=>exact hc _ _ _ _ _ q
 |outgrown=>exact hc _ _ _ _ _ q
theorem FH {c:Code}{n:Nat}(I:Nat→List eB→Blk→Act→eX→Prop)(h₀:I n vs A a w)(round:∀n vs A a w,I n vs A a w→wpS P main Old St fn c (yS (fun a0 A' a' w' =>∃m,m<n∧I m a0 A' a' w') Q) vs A a w):wpS P main Old St fn (.loop c) Q vs A a w:=by
 intro b k cs hb hk hc;have key:∀n vs A a w,I n vs A a w→OW P main Old (St vs) A (G (b.at a (.code c:: .inLoop c::k)) cs) w:=by
  intro n;induction n using mN with
  |_ n ih=>
   intro vs A a w hI;refine round n vs A a w hI b (.inLoop c::k) cs hb hk fun e a0 A' a' w' q=> ?_
   cases e with
   |normal=>obtain⟨m,hm,q⟩:=q;exact OW.ctl rfl (fun w=>stepG_inLoop) (ih m hm a0 A' a' w' q)
   |exit id=>exact(hc _ _ _ _ _ q).push rfl (by simp)
   |ret=>exact(hc _ _ _ _ _ q).push (x:= .inLoop c) rfl (by simp)
   |goto l=>exact hc _ _ _ _ _ q
   |panic ch=>exact hc _ _ _ _ _ q
   |outgrown=>exact hc _ _ _ _ _ q
 exact OW.ctl rfl (fun w=>stepG_loop) (key n vs A a w h₀)
theorem ow {id:Nat}(h:Q (.exit id) vs A a w):wpS P main Old St fn (.exit id) Q vs A a w:=qg (R:=fun e A a w=>Q e vs A a w) (jl h) fun _ _ _ _ q=>q
theorem ou (h:Q .normal vs A a w):wpS P main Old St fn .skip Q vs A a w:=qg (R:=fun e A a w=>Q e vs A a w) (yu h) fun _ _ _ _ q=>q
theorem jh {id:Nat}{ops:Array Oper}(h:gu P main Old St fn ops (mO ops.size) Q vs A a w):wpS P main Old St fn (.region id ops false) Q vs A a w:=
 fun b k cs hb hk hc=>OW.ctl rfl (fun w=>stepG_region) (h b k cs hb hk hc)
theorem O4 {ops:Array Oper}(h:Q .normal vs A a w):gu P main Old St fn ops [] Q vs A a w:=fun b k cs hb hk hc=>OW.ctl rfl (fun w=>stepG_region_end) (hc _ _ _ _ _ h)
theorem jD {ops:Array Oper}{i:Nat}{rest:List Nat}{o:Oper}{v:eB}(ho:ops[i]? =some o)(hw:Region.wanted o (yielded ops a.tmps)=true)(hv:∀(W:eX) (K:Result Next→Prop),K (.ok (.value v) W)→K ((execOp a.eval o).run P W))(he:∀W:eX,(execOp a.eval o).events P W #[]= #[])(hn:gu P main Old St fn ops rest Q vs A (a.put o.dst v) w):gu P main Old St fn ops (i::rest) Q vs A a w:=by
 intro b k cs hb hk hc;refine OW.one rfl fun w1 h1=>⟨G (b.at (a.put o.dst v) (.inRegion ops rest::k)) cs,w1,#[],A,?_,yQ.idle _ _ _,(hn b k cs hb hk hc).rely h1⟩
 rw[stepG_value ho hw hk (hv w1 (·= .ok (.value v) w1) rfl)];unfold listed;rw[he w1,seen_none]
end
section
variable {P:eA}{Old A:Blk}{c:Nat}{fn:FuncId}{Q:mH→List eB→Blk→Act→eX→Prop}{vs:List eB}{a:Act}{w:eX}
theorem fP {ops:Array Oper}{i:Nat}{rest:List Nat}{o:Oper}{x y:mM}{v:eB}(ho:ops[i]? =some o)(hw:Region.wanted o (yielded ops a.tmps)=true)(a0:o.op= .send x y)(hx:a.eval x= .chan (some c))(hy:a.eval y=v)
  (hn:∀w1,Rel Old A w w1→gu P false Old (qH P Old c) fn ops rest Q vs A (a.put o.dst lS) w1):gu P false Old (qH P Old c) fn ops (i::rest) Q (v::vs) A a w:=by
 intro b k cs hb hk hc;refine .stop fun w1 h1=> ?_
 refine⟨rfl,G (b.at a (.inRegion ops (i::rest)::k)) cs,.tuple #[],#[],?_,by simp,fun w2 h2=> ?_⟩
 ·rw[stepG_comm (cases:= #[scase c v (.tuple #[])]) (blocking:=true) (shape:= .send) (w' :=w1) ho hw hk (by simp[execOp,a0,hx,hy,scase])]
  have he:(execOp a.eval o).events P w1 #[]= #[]:=by
   unfold execOp;simp only[a0];rfl
  unfold listed;rw[he];simp[seen]
 ·have e:Conc.served (G (b.at a (.inRegion ops (i::rest)::k)) cs) lS=G (b.at (a.put o.dst lS) (.inRegion ops rest::k)) cs:=by
   rw[served_G];simp[ho]
  rw[e,Vt];exact hn w2 (h1.trans h2) b k cs hb hk hc
theorem FY {f:FuncId}{fn:Func}{args:Array eB}{body:Code}(hf:P.funcs[f]? =some fn)(a0:(fn.name== "runtime.NumGoroutine")=false)(hb:fn.body=some body)(hr:fn.results= #[])(a2:fn.norace=false)
  (h:wpS P false Old (qH P Old c) f body (fun e vs A a w=>(e= .normal∨e= .ret)∧vs=[]∧∃a1 ty bs,a.defers=[XA a1 ty bs c]) vs A {tmps:=args++mL (fn.ntmps-args.size) lS,defers:=[]} w):Snd P Old c vs A (born P (dcall f args)) w:=by
 rw[Vt];refine OW.ctl rfl (fun w=>gL hf a0 hb) (h (baseD f) [] [XC P] rfl (by simp[baseD]) fun e a3 A' a' w' q=> ?_);obtain⟨he,rfl,a1,ty,bs,hd⟩:=q;have key:∀todo,OW P false Old (qH P Old c []) A' (G {(baseD f).at a' todo with mode:= .returning} [XC P]) w' :=by
  intro todo;refine .stop fun w1 h1=>⟨rfl,rfl,G {(baseD f).at ⟨a'.tmps,[]⟩ todo with mode:= .returning} [XC P],#[⟨.obj c,false,true⟩],2,fun s r tm hc=> ?_,?_,oX (b:=baseD f) (fn:=fn) rfl hf hr⟩
  ·rw[vt hd hc (by simp[baseD,hf,a2])]
   rfl
  ·intro e he
   simp only[List.mem_toArray,List.mem_cons,List.not_mem_nil,or_false]at he;subst he;exact .inr (.inr ⟨c,rfl⟩)
 rcases he with rfl|rfl
 ·exact OW.ctl rfl (fun w=>stepG_end) (key [])
 ·exact key
end
theorem G2 {P:eA}{main:Bool}{Old A:Blk}{St:List eB→Blk→eZ→eX→Prop}{fn:FuncId}{Q:mH→List eB→Blk→Act→eX→Prop}{vs:List eB}{a:Act}{w:eX}{ops:Array Oper}{i:Nat}{rest:List Nat}{o:Oper}{x:mM}{a0:Array TypeId}{ch:Nat}(ho:ops[i]? =some o)(hw:Region.wanted o (yielded ops a.tmps)=true)
  (a1:o.op= .defer {callee:= .builtin .close,args:= #[x],argTypes:=a0})(hx:a.eval x= .chan (some ch))
  (hn:∀ty bs,gu P main Old St fn ops rest Q vs A (Act.put ⟨a.tmps,XA a0 ty bs ch::a.defers⟩ o.dst lS) w):gu P main Old St fn ops (i::rest) Q vs A a w:=by
 intro b k cs hb hk hc;obtain⟨ty,bs,h⟩:=Vr (P:=P) (main:=main) (b:=b) (a:=a) (k:=k) (cs:=cs) (rest:=rest) ho hw hk a1 hx;exact OW.ctl rfl h (hn ty bs b k cs hb hk hc)
def KO (Old A:Blk)(w0 w:eX):Prop:=∀b,Old b→¬A b∧b<w.heap.size∧w.heap[b]? =w0.heap[b]?
section
variable {P:eA}{main:Bool}{Old A A' :Blk}{w0 w w1 w' :eX}{es:Array Event}
theorem KO.rely (h:KO Old A w0 w)(r:Rel Old A w w1):KO Old A w0 w1:=fun b hb=>⟨(h b hb).1,lY (h b hb).2.1 r.size,(r.own b (.inr hb)).trans (h b hb).2.2⟩
theorem KO.guar (h:KO Old A w0 w)(g:yQ Old A A' w w' es):KO Old A' w0 w' :=fun b hb=>⟨fun e=>by
 rcases g.new b e with e|e
 ·exact(h b hb).1 e
 ·have:=(h b hb).2.1;omega,lY (h b hb).2.1 g.size,(g.rest b (h b hb).2.1 (h b hb).1).trans (h b hb).2.2⟩
theorem KO.back (h:KO Old A w0 w1)(r:Rel Old A w w1):KO Old A w0 w:=fun b hb=>by
 have e:=r.own b (.inr hb);refine⟨(h b hb).1,?_,e.symm.trans (h b hb).2.2⟩;rw[Array.getElem?_eq_getElem (h b hb).2.1]at e;exact(lE.1 e.symm).1
theorem KO.cell (h:KO Old A w0 w){p:Addr}(hp:Old p.block):w.cell? p=w0.cell? p:=by
 simp only[World.cell?,(h _ hp).2.2]
theorem bm {Z:Blk→eZ→eX→Prop}{g:eZ}(h:OW P main Old (fun A g w=>KO Old A w0 w→OW P main Old Z A g w) A g w)(hk:KO Old A w0 w):OW P main Old Z A g w:=by
 induction h using OW.ind with
 |stop h=>exact h _ (Rel.refl _ _ _) hk
 |step f v e B hs h1 _ ih=>exact .step f v e B hs h1 fun w1 hr=>ih w1 hr ((hk.rely hr).guar (h1 w1 hr).2)
theorem Qr {f:FuncId}{args:Array eB}{Post:Blk→eB→eX→Prop}(h:yH P main Old f args A w Post)(hk:KO Old A w0 w):yH P main Old f args A w (fun A' v w' =>Post A' v w' ∧KO Old A' w0 w'):=by
 obtain⟨fn,c,hf,hn,hb,hw⟩:=h;refine⟨fn,c,hf,hn,hb,fun b k cs Z a1 a2 hc=>bm (hw b k cs _ a1 a2 fun e A' a' w' q=> ?_) hk⟩
 cases e with
 |normal=>exact .stop fun w1 r1 a0=>(hc .normal A' a' w' ⟨q.1,q.2.choose,q.2.choose_spec.1,q.2.choose_spec.2,a0.back r1⟩).rely r1
 |ret=>exact fun todo=> .stop fun w1 r1 a0=>(hc .ret A' a' w' ⟨q.1,q.2.choose,q.2.choose_spec.1,q.2.choose_spec.2,a0.back r1⟩ todo).rely r1
 |exit id=>exact q.elim
 |goto l=>exact q.elim
 |panic ch=>exact q.elim
 |outgrown=>exact q.elim
end
section
variable {P:eA}{Old:Blk}{c:Nat}{z:eB}{fn:FuncId}
theorem gn {ops:Array Oper}{i:Nat}{rest:List Nat}{o:Oper}{t:TypeId}{x:mM}{b:iK}{a:Act}{k:List Item}{cs:List iK}{A:Blk}{w:eX}(ho:ops[i]? =some o)(hw:Region.wanted o (yielded ops a.tmps)=true)(hk:b.kind≠ .early)(a0:o.op= .recv t x true)(hx:a.eval x= .chan (some c))
  (hz:∀W,(execOp a.eval o).run P W= .ok (.comm #[rcase c z] true (.recv true)) W)(he:∀W,(execOp a.eval o).events P W #[]= #[]):
  uY P Old c z A (G (b.at a (.inRegion ops (i::rest)::k)) cs) w:=by
 refine⟨rfl,#[],?_,by simp⟩;rw[stepG_comm ho hw hk (hz w)];unfold listed;rw[he w,seen_none];rfl
theorem cr {LB a0:Code}{id:Nat}{ops:Array Oper}{o:Oper}{t:TypeId}{x:mM}{b:iK}{k:List Item}{cs:List iK}{Fin:Blk→eZ→eX→Prop}{all:List eB}(a6:LB= .seq (.region id ops false) a0)(a9:mO ops.size=[0,1])(ho:ops[0]? =some o)(hb:b.fn=fn)(hk:b.kind≠ .early)
  (a8:o.op= .recv t x true)(Inv:List eB→Blk→Act→eX→Prop)(hI:∀xs A a w w1,Inv xs A a w→Rel Old A w w1→Inv xs A a w1)
  (a7:∀xs A a w,Inv xs A a w→Region.wanted o (yielded ops a.tmps)=true∧a.eval x= .chan (some c)∧(∀W,(execOp a.eval o).run P W= .ok (.comm #[rcase c z] true (.recv true)) W)∧∀W,(execOp a.eval o).events P W #[]= #[])
  (round:∀xs v vs A a w,xs++v::vs=all→Inv xs A a w→Yv P true Old fn ops [1] (fun e A' a' w' =>e= .normal∧wpO P true Old fn a0 (fun e A' a' w' =>e= .normal∧Inv (xs++ [v]) A' a' w') A' a' w') A (a.put o.dst (.tuple #[v,.bool true])) w)
  (b1:∀A a w,Inv all A a w→Fin A (G (b.at (a.put o.dst (.tuple #[z,.bool false])) (.inRegion ops [1]:: .code a0:: .inLoop LB::k)) cs) w):
  ∀(vs xs:List eB) (A:Blk) (a:Act) (w:eX),xs++vs=all→Inv xs A a w→Rcv P Old c z Fin vs A (G (b.at a (.code LB:: .inLoop LB::k)) cs) w:=by
 intro vs;induction vs with
 |nil=>
  intro xs A a w a3 hi;rw[xA];subst a6;refine OW.ctl rfl (fun _=>stepG_seq) (OW.ctl rfl (fun _=>stepG_region) (.stop fun w1 h1=> ?_));have a1:=hI _ _ _ _ _ hi h1;obtain⟨h2,h3,h4,h5⟩:=a7 _ _ _ _ a1;rw[a9];refine⟨gn ho h2 hk a8 h3 h4 h5,fun w2 a5=> ?_⟩;have e:Conc.served (core (G (b.at a (.inRegion ops [0,1]:: .code a0:: .inLoop (.seq (.region id ops false) a0)::k)) cs)) (.tuple #[z,.bool false])=G (b.at (a.put o.dst (.tuple #[z,.bool false])) (.inRegion ops [1]:: .code a0:: .inLoop (.seq (.region id ops false) a0)::k)) cs:=by
   rw[show core (G (b.at a (.inRegion ops [0,1]:: .code a0:: .inLoop (.seq (.region id ops false) a0)::k)) cs)=G (b.at a (.inRegion ops [0,1]:: .code a0:: .inLoop (.seq (.region id ops false) a0)::k)) cs from rfl,served_G];simp[ho]
  rw[e];rw[nB]at a3;exact b1 A a w2 (a3▸hI _ _ _ _ _ a1 a5)
 |cons v vs ih=>
  intro xs A a w a3 hi;rw[xA];have a4 :=a6;subst a4;refine OW.ctl rfl (fun _=>stepG_seq) (OW.ctl rfl (fun _=>stepG_region) (.stop fun w1 h1=> ?_));have a1:=hI _ _ _ _ _ hi h1;obtain⟨h2,h3,h4,h5⟩:=a7 _ _ _ _ a1;rw[a9];refine⟨gn ho h2 hk a8 h3 h4 h5,fun w2 a5=> ?_⟩;have e:Conc.served (core (G (b.at a (.inRegion ops [0,1]:: .code a0:: .inLoop (.seq (.region id ops false) a0)::k)) cs)) (.tuple #[v,.bool true])=G (b.at (a.put o.dst (.tuple #[v,.bool true])) (.inRegion ops [1]:: .code a0:: .inLoop (.seq (.region id ops false) a0)::k)) cs:=by
   rw[show core (G (b.at a (.inRegion ops [0,1]:: .code a0:: .inLoop (.seq (.region id ops false) a0)::k)) cs)=G (b.at a (.inRegion ops [0,1]:: .code a0:: .inLoop (.seq (.region id ops false) a0)::k)) cs from rfl,served_G];simp[ho]
  rw[e,xA];refine round xs v vs A a w2 a3 (hI _ _ _ _ _ a1 a5) b (.code a0:: .inLoop (.seq (.region id ops false) a0)::k) cs _ hb hk fun e A' a' w' q=> ?_
  obtain⟨rfl,q⟩:=q;refine q b (.inLoop (.seq (.region id ops false) a0)::k) cs _ hb hk fun e A2 a2 w2 q2=> ?_
  obtain⟨rfl,q2⟩:=q2;refine OW.ctl rfl (fun _=>stepG_inLoop) ?_;rw[←xA];exact ih (xs++ [v]) A2 a2 w2 (by simpa using a3) q2
end
section
variable {P:eA}{fn:FuncId}{Q:mH→Act→eX→Prop}{a:Act}{w:eX}
theorem Bn {ops:Array Oper}{i:Nat}{o:Oper}{b:iK}{k:List Item}{cs:List iK}{Z:eZ→eX→Prop}{d:Deferred}{f:Fn}{cc:Array eB}{c:Nat}{z:eB}{vs:List eB}(ho:ops[i]? =some o)(hw:Region.wanted o (yielded ops a.tmps)=true)(hk:b.kind≠ .early)
  (hr:∀W,(execOp a.eval o).run P W= .ok (.spawn d) W)(he:∀W,(execOp a.eval o).events P W #[]= #[])(hd:d.target= .fn f cc)(hc:∃s r tm,w.heap[c]? =some (.chan 0 #[] false s r tm))
  (hR:∀T e,Rcv P (Xd w c) c z (fun A g w' =>Rel (Xd w c) Zu (re w T e) w' →ToE P Z g w') vs Zu (G (b.at (a.put o.dst lS) (.inRegion ops []::k)) cs) (re w T e))(hS:∀T e,Snd P (Xd w c) c vs Zu (born P d) (re w T e)):ToE P Z (G (b.at a (.inRegion ops [i]::k)) cs) w:=by
 intro T e;refine To.trans (Bm (Q:=fun g w=>ToE P Z g w) (w:=re w T e) (c:=c) rfl (fun d0=> ?_) hc (hR T e) (hS T e) fun g2 w2 h=> ?_) fun g w h=>h.here
 ·rw[stepG_spawn ho hw hk (hr _) hd]
  unfold listed;rw[he,seen_none]
 ·obtain⟨⟨A,h1⟩,h2⟩:=h
  exact h1 h2
theorem toE_run (hP:zH P){ops:Array Oper}{i:Nat}{rest:List Nat}{o:Oper}{b:iK}{k:List Item}{cs:List iK}{Z:eZ→eX→Prop}(hO:OkK k cs)(ho:ops[i]? =some o)(hw:Region.wanted o (yielded ops a.tmps)=true)(M:eB→eX→Prop)(hM:∀v w T d,M v w→M v (re w T d))
  (hr:∀T d,∃v w',(execOp a.eval o).run P (re w T d)= .ok (.value v) w' ∧M v w')(hn:∀v w',M v w' →ToE P Z (G (b.at (a.put o.dst v) (.inRegion ops rest::k)) cs) w'):ToE P Z (G (b.at a (.inRegion ops (i::rest)::k)) cs) w:=by
 have a0:∀v,(b.at a (.inRegion ops (i::rest)::k)).finish v=b.at (a.put o.dst v) (.inRegion ops rest::k):=by
  intro v;rw[mI,ho];rfl
 refine(ToE.lone (Q:=fun g w' =>∃v,M v w' ∧g=G (b.at (a.put o.dst v) (.inRegion ops rest::k)) cs) hP (fun g w T d ⟨v,q,s⟩=>⟨v,hM _ _ T d q,s⟩) (hO.cons (by trivial)).fit fun T d=> ?_).trans fun g w' ⟨⟨v,q,s⟩,_⟩=> ?_
 ·obtain⟨v,w',h1,h2⟩:=hr T d
  refine⟨1,_,w',?_,⟨v,h2,rfl⟩,rfl,rfl⟩;have a1:step P (lone (b.at a (.inRegion ops (i::rest)::k)) cs (re w T d))= .next (lone (b.at (a.put o.dst v) (.inRegion ops rest::k)) cs w'):=step_lone_go (by rw[stepG_op ho hw,←a0 v];simp[stepG.apply,h1]);simp only[runN];rw[show solo (G (b.at a (.inRegion ops (i::rest)::k)) cs) (re w T d)=lone (b.at a (.inRegion ops (i::rest)::k)) cs (re w T d)from rfl,a1];rfl
 ·subst s
  exact hn v w' q
theorem qi (hP:zH P){ops:Array Oper}{i:Nat}{rest:List Nat}{o:Oper}{v:eB}{b:iK}{k:List Item}{cs:List iK}{Z:eZ→eX→Prop}(hO:OkK k cs)(ho:ops[i]? =some o)(hw:Region.wanted o (yielded ops a.tmps)=true)(hv:∀(W:eX) (K:Result Next→Prop),K (.ok (.value v) W)→K ((execOp a.eval o).run P W))(hn:ToE P Z (G (b.at (a.put o.dst v) (.inRegion ops rest::k)) cs) w):ToE P Z (G (b.at a (.inRegion ops (i::rest)::k)) cs) w:=
 toE_run hP hO ho hw (fun u w' =>u=v∧∃T d,w' =re w T d) (fun u w' T d ⟨e,T',d',e'⟩=>⟨e,T,d,by rw[e'];rfl⟩) (fun T d=>⟨v,re w T d,hv _ (·= .ok (.value v) (re w T d)) rfl,rfl,T,d,rfl⟩) fun u w' ⟨e,T,d,e'⟩=>by subst e e';exact hn.rt T d
theorem O3 (hP:zH P){ops:Array Oper}{i:Nat}{rest:List Nat}{o:Oper}(ho:ops[i]? =some o)(hw:Region.wanted o (yielded ops a.tmps)=true)(M:eB→eX→Prop)(hM:∀v w T d,M v w→M v (re w T d))
  (hr:∀T d,∃v w',(execOp a.eval o).run P (re w T d)= .ok (.value v) w' ∧M v w')(hn:∀v w',M v w' →qQ P fn ops rest Q (a.put o.dst v) w'):qQ P fn ops (i::rest) Q a w:=
 fun b k cs Z hF hO hb hc=>toE_run hP hO ho hw M hM hr fun v w' q=>hn v w' q b k cs Z hF hO hb hc
theorem ZB (hP:zH P){ops:Array Oper}{i:Nat}{rest:List Nat}{o:Oper}{v:eB}(ho:ops[i]? =some o)(hw:Region.wanted o (yielded ops a.tmps)=true)(hv:∀(W:eX) (K:Result Next→Prop),K (.ok (.value v) W)→K ((execOp a.eval o).run P W))(hn:qQ P fn ops rest Q (a.put o.dst v) w):qQ P fn ops (i::rest) Q a w:=
 fun b k cs Z hF hO hb hc=>qi hP hO ho hw hv (hn b k cs Z hF hO hb hc)
end
def ReC (Q:mH→Act→eX→Prop):Prop:=∀e a w T d,Q e a w→Q e a (re w T d)
section
variable {P:eA}{fn:FuncId}{Q:mH→Act→eX→Prop}{c:Code}
theorem ReC.thenT (h:ReC Q):ReC (Exit.then (wpT P fn c Q) Q):=fun e a w T d hq=>by
 cases e with
 |normal=>exact Bl hq T d
 |ret=>exact h .ret a w T d hq
 |exit id=>exact h (.exit id) a w T d hq
 |goto l=>exact h (.goto l) a w T d hq
 |panic ch=>exact h (.panic ch) a w T d hq
 |outgrown=>exact h .outgrown a w T d hq
theorem ReC.inBlock {id:Nat}(h:ReC Q):ReC (Exit.inBlock id Q):=fun e a w T d hq=>by
 cases e with
 |normal=>exact h .normal a w T d hq
 |ret=>exact h .ret a w T d hq
 |exit i=>
  simp only[Exit.inBlock]at hq⊢;split
  ·rename_i e;rw[if_pos e]at hq;exact h .normal a w T d hq
  ·rename_i e;rw[if_neg e]at hq;exact h (.exit i) a w T d hq
 |goto l=>exact h (.goto l) a w T d hq
 |panic ch=>exact h (.panic ch) a w T d hq
 |outgrown=>exact h .outgrown a w T d hq
theorem ReC.body {f:Func}{R:eB→eX→Prop}(h:∀v w T d,R v w→R v (re w T d)):ReC (zZ P f R):=fun e a w T d hq=>by
 cases e with
 |normal=>obtain⟨h1,v,h2,h3⟩:=hq;exact⟨h1,v,h2,h v w T d h3⟩
 |ret=>obtain⟨h1,v,h2,h3⟩:=hq;exact⟨h1,v,h2,h v w T d h3⟩
 |exit id=>exact hq
 |goto l=>exact hq
 |panic ch=>exact hq
 |outgrown=>exact hq
theorem z7 (hP:zH P){x y:Code}(hQ:ReC Q){a:Act}{w:eX}(h:∀T d,x.wp P (Exit.then (wpT P fn y Q) Q) a (re w T d)):wpT P fn (.seq x y) Q a w:=zn hP (oq hP hQ.thenT h)
end
def K6 (P:eA)(fn:Func)(R:eB→eX→Prop):mH→Act→eX→Prop
 | .normal,a,w| .ret,a,w=>a.defers=[]∧∃v,(∀W,(results fn a.tmps).run P W= .ok v W∧Sem.events P (results fn a.tmps) W #[]= #[])∧R v w
 |_,_,_=>False
theorem ReC.bodyE {P:eA}{f:Func}{R:eB→eX→Prop}(h:∀v w T d,R v w→R v (re w T d)):ReC (K6 P f R):=fun e a w T d hq=>by
 cases e with
 |normal=>obtain⟨h1,v,h2,h3⟩:=hq;exact⟨h1,v,h2,h v w T d h3⟩
 |ret=>obtain⟨h1,v,h2,h3⟩:=hq;exact⟨h1,v,h2,h v w T d h3⟩
 |exit id=>exact hq
 |goto l=>exact hq
 |panic ch=>exact hq
 |outgrown=>exact hq
def fo (P:eA)(R:eB→eX→Prop)(g:eZ)(w:eX):Prop:=g.status= .running∧∃v,R v w∧∀W,stepG P true g W= .ended (.done v) W #[]
theorem o_ {P:eA}(hP:zH P){f:FuncId}{fn:Func}{c:Code}{args:Array eB}{w:eX}{R:eB→eX→Prop}(hR:∀v w T d,R v w→R v (re w T d))(hf:P.funcs[f]? =some fn)(hb:fn.body=some c)(hi:P.inits.idxOf? f=none)
  (h:wpT P f c (K6 P fn R) {tmps:=args++mL (fn.ntmps-args.size) lS,defers:=[]} w):ToE P (fo P R) (G (iM P f args .normal) []) w:=by
 have a2 :∀f∈([]:List iK),zO f:=fun f hf=>by cases hf
 have a1:iM P f args .normal=({(default:iK)with fn:=f,kind:= .normal}:iK).at {tmps:=args++mL (fn.ntmps-args.size) lS,defers:=[]} [.code c]:=by
  simp[iM,Frame.at,hf,hb]
 rw[a1];have a0:∀(a' :Act) (w' :eX) (todo:List Item),(a'.defers=[]∧∃v,(∀W,(results fn a'.tmps).run P W= .ok v W∧Sem.events P (results fn a'.tmps) W #[]= #[])∧R v w')→
   ToE P (fo P R) (G {({(default:iK)with fn:=f,kind:= .normal}:iK).at a' todo with mode:= .returning} []) w' :=by
  rintro a' w' todo ⟨hd,v,hr,hp⟩;refine ToE.done fun T d=>⟨rfl,v,hR v w' T d hp,fun W=> ?_⟩
  simp[G,stepG,unwind,doReturn,Frame.at,hd,hf,(hr W).1,(hr W).2,hi];rfl
 refine h _ [] [] (fo P R) rfl ⟨fun _ hx=>(by cases hx),a2⟩ (by simp) fun e a' w' q=> ?_
 cases e with
 |normal=>exact ToE.ctl (g' :=G {({(default:iK)with fn:=f,kind:= .normal}:iK).at a' []with mode:= .returning} []) hP (OkK.fit ⟨fun _ hx=>(by cases hx),a2⟩) ⟨rfl,rfl⟩ (fun w=>step_end) (a0 a' w' [] q)
 |ret=>exact fun todo _=>a0 a' w' todo q
 |exit id=>exact q.elim
 |goto l=>exact q.elim
 |panic ch=>exact q.elim
 |outgrown=>exact q.elim
theorem On {P:eA}{g:eZ}{w:eX}{R:eB→eX→Prop}(hR:∀v w T d,R v w→R v (re w T d))(h:ToE P (fo P R) g w):
  ∃N last o w' t',runNT P (N+1) (solo g w) #[]=(.ended o w',t')∧runN P N (solo g w)= .next last∧step P last= .ended o w' ∧Good P R last o w' t' :=by
 obtain⟨N,gs,g1,w1,sl,t,q,a5,h0,⟨a7,v,hv,a6⟩,hL,B,a0⟩:=h.here #[g] none #[] (fun _=>0) rfl (leavers_one P g) ⟨0,past_nil⟩;have hG:Goes P true AtRel (fun _ _ es=>∀e∈es,EvL (fun _=>False) B e) (AtEnd P (fun _=>False) B R) 0 g1 w1:=by
  rintro w2 ⟨d,rfl⟩;exact⟨a7,v,#[],a6 _,fun e he=>by simp at he,hR v w1 w1.tape d hv⟩
 obtain⟨M,last,o,w2,t2,a1,a2,a3,a4⟩:=beside_ends (sl:=sl) (fun _ _ _ h=>h) h0 hL a0 hG;have hs:solo g w=crowd #[g] w none:=rfl;refine⟨N+M,last,o,w2,t2,?_,?_,a3,a4⟩
 ·rw[iF,runNT_add,hs,a5]
  exact a1
 ·have h1:runN P N (crowd #[g] w none)= .next (crowd gs w1 sl):=by rw[←runNT_fst P N _ #[],a5]
  rw[runN_add,hs,h1];exact a2
section
variable {P:eA}{fn:FuncId}{Q:mH→Act→eX→Prop}{a:Act}{w:eX}
theorem qh {ops:Array Oper}{Q:mH→Act→eX→Prop}(l:List Oper):∀k,(∀j,j<l.length→l[j]? =ops[k+j]?)→wpOps P ops Q (nC k l.length)=wpList P ops Q l:=by
 induction l with
 |nil=>intro k _;funext a w;simp[wpOps,wpList]
 |cons o l ih=>
  intro k h;have h0:ops[k]? =some o:=by simpa using(h 0 (by simp)).symm
  have a0 :=ih (k+1) (fun j hj=>by have:=h (j+1) (by simpa using hj);simpa[iF,nD 1 j]using this);funext a w
  simp only[List.length_cons,nE,wpOps,h0,wpList,a0]
theorem uL {f:FuncId}{args:Array eB}{R:eB→eX→Prop}(h:zF P f args w R)(T:Nat→iC→Nat)(d:Nat):zF P f args (re w T d) R:=fun c cs Z hc a0 hn=>(h c cs Z hc a0 hn).rt T d
def qe (P:eA)(ops:Array Oper)(Q:Act→eX→Prop)(n:Nat)(dst:Option Nat)(f:FuncId)(args:Array mM)(a:Act)(w:eX):Prop:=
 ∃(vals:Array eB) (R:eB→eX→Prop),args.map a.eval=vals∧zF P f vals w R∧∀v w',R v w' →∀T d,wpList P ops (fun e a w=>e= .normal∧Q a w) (ops.toList.drop (n+1)) (a.put dst v) (re w' T d)
theorem qe.re {ops:Array Oper}{Q:Act→eX→Prop}{n:Nat}{a0:Option Nat}{f:FuncId}{args:Array mM}(h:qe P ops Q n a0 f args a w)(T:Nat→iC→Nat)(d:Nat):qe P ops Q n a0 f args a (re w T d):=by
 obtain⟨vals,R,h1,h2,h3⟩:=h;exact⟨vals,R,h1,uL h2 T d,h3⟩
theorem zP (hP:zH P)(n:Nat){id:Nat}{ops:Array Oper}{o:Oper}(hQ:ReC Q)(ho:ops[n]? =some o){f:FuncId}{args:Array mM}{a2:Array TypeId}(a6:o.op= .call {callee:= .value (.func f),args,argTypes:=a2})(hg:o.guard=none)
  {a1:Func}(hf:P.funcs[f]? =some a1)(a0:(a1.name== "runtime.NumGoroutine")=false)(a3:a1.body.isNone=false)
  (h:∀T d,wpList P ops (fun e a w=>e= .normal∧qe P ops (fun a w=>Q .normal a w) n o.dst f args a w) (ops.toList.take n) a (re w T d)):wpT P fn (.region id ops false) Q a w:=by
 refine yt hP ?_;have hn:n<ops.size:=(lE.1 ho).1;have hr:mO ops.size=nC 0 n++(n::nC (n+1) (ops.size-(n+1))):=by
  rw[nF,show ops.size=n+(1+(ops.size-(n+1)))from by omega,←nG];congr 1
  rw[nD 1,nE,lQ];congr 2
  omega
 rw[hr];have a4:(ops.toList.take n).length=n:=by simp;omega
 refine Q2 hP (fun a w=>qe P ops (fun a w=>Q .normal a w) n o.dst f args a w) _ _ (fun a w T d h=>h.re T d) (fun T d=> ?_) (fun a' w' h' => ?_)
 ·have:=h T d
  rw[←qh (ops.toList.take n) 0 (fun j hj=>by
   rw[nH,if_pos (by omega),lQ];simp)]at this
  rw[a4]at this;exact this
 ·obtain⟨vals,R,h1,h2,h3⟩:=h'
  refine opsT_call hP ho (by simp[Region.wanted,hg]) (fun W=>by subst h1;exact run_call_body a6 hf a0 a3) h2 fun v w2 hv=> ?_
  have a5:(ops.toList.drop (n+1)).length=ops.size-(n+1):=by simp
  have h4:=Q2 (fn:=fn) (Q:=Q) hP (ops:=ops) (a:=a'.put o.dst v) (w:=w2) (fun a w=>Q .normal a w) (nC (n+1) (ops.size-(n+1))) [] (fun a w T d h=>hQ _ _ _ T d h) (fun T d=> ?_) (fun a w h=>yU hP h)
  ·rwa[nB]at h4
  ·have:=h3 v w2 hv T d
   rw[←qh (ops.toList.drop (n+1)) (n+1) (fun j hj=>by simp[nI])]at this;rw[a5]at this;exact this
def uW (P:eA)(ops:Array Oper)(Q:Act→eX→Prop)(n:Nat)(o:Oper)(f:FuncId)(args:Array mM)(a:Act)(w:eX):Prop:=
 Region.wanted o (yielded ops a.tmps)=true∧qe P ops Q n o.dst f args a w
theorem fq (hP:zH P)(n:Nat){id:Nat}{ops:Array Oper}{o:Oper}(hQ:ReC Q)(ho:ops[n]? =some o){f:FuncId}{args:Array mM}{a2:Array TypeId}(a6:o.op= .call {callee:= .value (.func f),args,argTypes:=a2})
  {a1:Func}(hf:P.funcs[f]? =some a1)(a0:(a1.name== "runtime.NumGoroutine")=false)(a3:a1.body.isNone=false)
  (h:∀T d,wpList P ops (fun e a w=>e= .normal∧uW P ops (fun a w=>Q .normal a w) n o f args a w) (ops.toList.take n) a (re w T d)):wpT P fn (.region id ops false) Q a w:=by
 refine yt hP ?_;have hn:n<ops.size:=(lE.1 ho).1;have hr:mO ops.size=nC 0 n++(n::nC (n+1) (ops.size-(n+1))):=by
  rw[nF,show ops.size=n+(1+(ops.size-(n+1)))from by omega,←nG];congr 1
  rw[nD 1,nE,lQ];congr 2
  omega
 rw[hr];have a4:(ops.toList.take n).length=n:=by simp;omega
 refine Q2 hP (fun a w=>uW P ops (fun a w=>Q .normal a w) n o f args a w) _ _ (fun a w T d h=>⟨h.1,h.2.re T d⟩) (fun T d=> ?_) (fun a' w' h' => ?_)
 ·have:=h T d
  rw[←qh (ops.toList.take n) 0 (fun j hj=>by
   rw[nH,if_pos (by omega),lQ];simp)]at this
  rw[a4]at this;exact this
 ·obtain⟨a7,vals,R,h1,h2,h3⟩:=h'
  refine opsT_call hP ho a7 (fun W=>by subst h1;exact run_call_body a6 hf a0 a3) h2 fun v w2 hv=> ?_
  have a5:(ops.toList.drop (n+1)).length=ops.size-(n+1):=by simp
  have h4:=Q2 (fn:=fn) (Q:=Q) hP (ops:=ops) (a:=a'.put o.dst v) (w:=w2) (fun a w=>Q .normal a w) (nC (n+1) (ops.size-(n+1))) [] (fun a w T d h=>hQ _ _ _ T d h) (fun T d=> ?_) (fun a w h=>yU hP h)
  ·rwa[nB]at h4
  ·have:=h3 v w2 hv T d
   rw[←qh (ops.toList.drop (n+1)) (n+1) (fun j hj=>by simp[nI])]at this;rw[a5]at this;exact this
end
section
variable {P:eA}{fn:FuncId}{Q:mH→Act→eX→Prop}{a:Act}{w:eX}{c:Code}
def vq (P:eA)(fn:FuncId)(c:Code)(Q:mH→Act→eX→Prop)(a:Act)(w:eX):Prop:=
 ∀(b:iK) (k:List Item) (cs:List iK) (Z:eZ→eX→Prop),b.fn=fn→OkK k cs→b.kind≠ .early→(∀e a' w',Q e a' w' →Vd P Z b k cs e a' w')→ToE P Z (G (b.at a (.inLoop c::k)) cs) w
theorem fs (h:vq P fn c Q a w)(T:Nat→iC→Nat)(d:Nat):vq P fn c Q a (re w T d):=fun b k cs Z hF hO hb hc=>(h b k cs Z hF hO hb hc).rt T d
theorem ui (h:wpT P fn c (Exit.then (vq P fn c Q) Q) a w)(b:iK)(k:List Item)(cs:List iK)(Z:eZ→eX→Prop)(hF:b.fn=fn)(hO:OkK k cs)(hb:b.kind≠ .early)(hc:∀e a' w',Q e a' w' →Vd P Z b k cs e a' w'):ToE P Z (G (b.at a (.code c:: .inLoop c::k)) cs) w:=by
 refine h b (.inLoop c::k) cs Z hF (hO.cons (by trivial)) hb fun e a' w' q=> ?_
 cases e with
 |normal=>exact q b k cs Z hF hO hb hc
 |exit id=>exact(hc _ _ _ q).push rfl (by simp)
 |ret=>exact(hc _ _ _ q).push (x:= .inLoop c) rfl (by simp)
 |goto l=>exact hc _ _ _ q
 |panic ch=>exact hc _ _ _ q
 |outgrown=>exact hc _ _ _ q
theorem fp (hP:zH P)(h:wpT P fn c (Exit.then (vq P fn c Q) Q) a w):wpT P fn (.loop c) Q a w:=fun b k cs Z hF hO hb hc=>
 ToE.ctl hP (hO.cons (by trivial)).fit ⟨rfl,rfl⟩ (fun w=>step_loop) (ui h b k cs Z hF hO hb hc)
theorem Vk (hP:zH P)(h:wpT P fn c (Exit.then (vq P fn c Q) Q) a w):vq P fn c Q a w:=fun b k cs Z hF hO hb hc=>
 ToE.ctl hP (hO.cons (by trivial)).fit ⟨rfl,rfl⟩ (fun w=>step_inLoop) (ui h b k cs Z hF hO hb hc)
theorem zg (hP:zH P)(hQ:ReC Q)(h:∀T d,c.wp P Q a (re w T d)):wpT P fn c Q a w:=oq hP hQ h
theorem ReC.thenM {N:Act→eX→Prop}(h:ReC Q)(hN:∀a w T d,N a w→N a (re w T d)):ReC (Exit.then N Q):=fun e a w T d hq=>by
 cases e with
 |normal=>exact hN a w T d hq
 |ret=>exact h .ret a w T d hq
 |exit id=>exact h (.exit id) a w T d hq
 |goto l=>exact h (.goto l) a w T d hq
 |panic ch=>exact h (.panic ch) a w T d hq
 |outgrown=>exact h .outgrown a w T d hq
theorem ReC.thenL (h:ReC Q):ReC (Exit.then (vq P fn c Q) Q):=fun e a w T d hq=>by
 cases e with
 |normal=>exact fs hq T d
 |ret=>exact h .ret a w T d hq
 |exit id=>exact h (.exit id) a w T d hq
 |goto l=>exact h (.goto l) a w T d hq
 |panic ch=>exact h (.panic ch) a w T d hq
 |outgrown=>exact h .outgrown a w T d hq
end
section
variable {P:eA}{fn:FuncId}{ops:Array Oper}{Q:mH→Act→eX→Prop}{S:eX→Prop}{a:Act}{w:eX}
def NoQ:mH→Act→eX→Prop:=fun _ _ _=>False
def OpT (P:eA)(ops:Array Oper)(i:Nat)(K:Act→eX→Prop)(a:Act)(w:eX):Prop:=
 (∀T d,wpOp P ops NoQ i K a (re w T d))∨∃(o:Oper) (f:FuncId) (args:Array mM) (ats:Array TypeId) (fnn:Func) (R:eB→eX→Prop),ops[i]? =some o∧Region.wanted o (yielded ops a.tmps)=true∧o.op= .call {callee:= .value (.func f),args,argTypes:=ats}∧P.funcs[f]? =some fnn∧(fnn.name== "runtime.NumGoroutine")=false∧fnn.body.isNone=false∧
  zF P f (args.map a.eval) w R∧∀v w',R v w' →K (a.put o.dst v) w'
theorem OpT.re {i:Nat}{K:Act→eX→Prop}(h:OpT P ops i K a w)(T:Nat→iC→Nat)(d:Nat):OpT P ops i K a (re w T d):=by
 rcases h with h|⟨o,f,args,a0,a1,R,h1,h2,h3,h4,h5,h6,h7,h8⟩
 ·exact .inl fun T' d' =>h T' d'
 ·exact .inr ⟨o,f,args,a0,a1,R,h1,h2,h3,h4,h5,h6,uL h7 T d,h8⟩
theorem OpT.mono {i:Nat}{K K' :Act→eX→Prop}(h:∀a w,K a w→K' a w)(hh:OpT P ops i K a w):OpT P ops i K' a w:=by
 rcases hh with hh|⟨o,f,args,a0,a1,R,h1,h2,h3,h4,h5,h6,h7,h8⟩
 ·exact .inl fun T d=>wpOp_mono h (hh T d)
 ·exact .inr ⟨o,f,args,a0,a1,R,h1,h2,h3,h4,h5,h6,h7,fun v w' hv=>h _ _ (h8 v w' hv)⟩
theorem FJ {i:Nat}{K:Act→eX→Prop}(h:wpOp P ops NoQ i K a w):wpOp P ops Q i K a w:=by
 unfold wpOp at*;split
 ·rename_i ho;simpa[ho]using h
 ·rename_i o ho
  simp only[ho]at h;split
  ·rename_i hw
   simp only[hw,if_true]at h;rcases h with h|⟨_,_,_,hl⟩
   ·refine .inl ?_
    unfold Oper.wp at*;generalize(execOp a.eval o).run P w=r at*
    cases r with
    |ok n w' =>
     cases n<;>simp only[Oper.upon]at h⊢
     case value u=>exact h
     case skip=>exact h
     case defer d=>exact h
     case enter f args=>
      refine Calls.mono h fun e a0 he=> ?_
      cases e with
      |returned u=>exact he
      |panicked c=>exact he.elim
      |outgrown=>
       obtain⟨_,_,hl⟩:=he;exact hl.elim
     case row row args=>exact Rows.mono h fun u a0 he=>he
    |halt x w' =>cases x<;>simp only[Oper.upon]at h⊢<;>exact h.elim
   ·exact hl.elim
  ·rename_i hw
   simp only[hw]at h;exact h
theorem OpT.run (hP:zH P){i:Nat}{rest:List Nat}{K:Act→eX→Prop}(hK:∀a w T d,K a w→K a (mG w T d))(h:OpT P ops i K a w)(hn:∀a' w',K a' w' →qQ P fn ops rest Q a' w'):qQ P fn ops (i::rest) Q a w:=by
 rcases h with h|⟨o,f,args,a0,a1,R,h1,h2,h3,h4,h5,h6,h7,h8⟩
 ·refine Q2 (l1:=[i]) (l2:=rest) hP K hK (fun T d=> ?_) hn
  rw[wpOps_cons];exact wpOp_mono (fun a w hk=>⟨rfl,hk⟩) (FJ (h T d))
 ·exact opsT_call hP h1 h2 (fun W=>run_call_body h3 h4 h5 h6) h7 fun v w' hv=>hn _ _ (h8 v w' hv)
theorem FC {j:Nat}{oi oj:Oper}{v:eB}(hj:ops[j]? =some oj)(a0:oi.apart ops oj=true)(a1:∀cs b,oi.op≠ .select cs b)(a4:∀cs b,oj.op≠ .select cs b){K:Act→eX→Prop}
  (hy:YieldsIf P ops S oi v a)(h:OpT P ops j K (a.put oi.dst v) w):OpT P ops j (fun a' w' =>YieldsIf P ops S oi v a' ∧K (a'.put oi.dst v) w') a w:=by
 rcases h with h|⟨o,f,args,a2,a3,R,h1,h2,h3,h4,h5,h6,h7,h8⟩
 ·exact .inl fun T d=>wpOp_putIf hj a0 a1 a4 (fun _ _ _ h=>h) hy (h T d)
 ·obtain⟨p1,p2,p3⟩:=Oper.apart_spec a0
  rw[hj]at h1;obtain rfl:=Option.some.inj h1;refine .inr ⟨oj,f,args,a2,a3,R,hj,by rw[←wanted_put oj a oi.dst v p1];exact h2,h3,h4,h5,h6,?_,fun u w' hp=>⟨hy.of_same (execOp_put oi a1 a oj.dst u p3) (wanted_put oi a oj.dst u p3),by rw[←Act.put_comm a v u p2];exact h8 u w' hp⟩⟩;rw[VT]at h7
  ·exact h7
  ·intro d hd x hx e
   subst e;refine p1 d hd (mT _ (mU.2 ⟨.tmp d,?_,rfl⟩));simp only[h3,Op.operands,Call.operands];exact mV.2 (mW.2 (.inr hx))
def xm (P:eA)(ops:Array Oper)(Q:mH→Act→eX→Prop)(S:eX→Prop):Nat→Array Bool→Act→eX→Prop
 |0,listed,a,w=>Region.ready .any ops listed=[]∧Q .normal a w
 |n+1,listed,a,w=>(Region.ready .any ops listed=[]→Q .normal a w)∧∀i∈Region.ready .any ops listed,OpT P ops i (fun a' w' =>S w' ∧xm P ops Q S n (listed.setIfInBounds i true) a' w') a w
theorem xm.re (hQ:ReC Q):∀{n:Nat} {a0:Array Bool} {a:Act} {w:eX},xm P ops Q S n a0 a w→∀T d,xm P ops Q S n a0 a (mG w T d)
 |0,_,_,_,h,T,d=>⟨h.1,hQ _ _ _ T d h.2⟩
 |_+1,_,_,_,h,T,d=>⟨fun e=>hQ _ _ _ T d (h.1 e),fun i hi=>(h.2 i hi).re T d⟩
theorem xm.go (hP:zH P)(hQ:ReC Q)(hS:∀w T d,S w→S (mG w T d)):∀{n:Nat} {a0:Array Bool} {a:Act} {w:eX},xm P ops Q S n a0 a w→∀t,qQ P fn ops (Region.linearise.go .any ops n t a0 []) Q a w
 |0,a0,a,w,h,t=>by simpa[Region.linearise.go]using yU hP h.2
 |n+1,a0,a,w,h,t=>by
  simp only[Region.linearise.go];change qQ P fn ops (match(Region.ready .any ops a0)[t % (Region.ready .any ops a0).length]? with
   |some i=>Region.linearise.go .any ops n (t/(Region.ready .any ops a0).length) (a0.setIfInBounds i true) [i]
   |none=> [].reverse) Q a w
  cases hi:(Region.ready .any ops a0)[t % (Region.ready .any ops a0).length]? with
  |none=>
   have a1:Region.ready .any ops a0=[]:=by
    cases hr:Region.ready .any ops a0 with
    |nil=>rfl
    |cons x xs=>
     rw[hr]at hi;have a2:t % (x::xs).length<(x::xs).length:=mQ _ (by simp);simp at hi;simp at a2;omega
   exact yU hP (h.1 a1)
  |some i=>
   simp only[];rw[linearise_go_acc,mR,mS];exact(h.2 i (List.mem_of_getElem? hi)).run hP (fun a w T d hk=>⟨hS _ T d hk.1,hk.2.re hQ T d⟩) fun a' w' hk=>xm.go hP hQ hS hk.2 _
theorem xm.first {i:Nat}{oi:Oper}{v:eB}(hQ:ReC Q)(a6:∀w T d,S w→S (mG w T d))(hi:ops[i]? =some oi)(a5:∀(j:Nat) (o:Oper) cs b,ops[j]? =some o→o.op≠ .select cs b):
  ∀(n:Nat) (a0:Array Bool) (a:Act) (w:eX),
   (∀j oj,ops[j]? =some oj→j≠i→a0.getD j true=false→(∀e∈oj.after,Region.binds .any e=true→e.on≠i)→oi.apart ops oj=true)→
   i∈Region.ready .any ops a0→YieldsIf P ops S oi v a→S w→
   xm P ops Q S n (a0.setIfInBounds i true) (a.put oi.dst v) w→xm P ops Q S (n+1) a0 a w:=by
 intro n;induction n with
 |zero=>
  intro a0 a w _ hr hy hS H;refine⟨fun h=>(by rw[h]at hr;cases hr),fun j hj=> ?_⟩;by_cases a2:j=i
  ·subst a2;exact .inl fun T d=>hy.wpOp hi (a6 _ T d hS) ⟨a6 _ T d hS,H.re hQ T d⟩
  ·have:=ready_mono hj a2
   rw[H.1]at this
   cases this
 |succ n ih=>
  intro a0 a w a1 hr hy hS H;refine⟨fun h=>(by rw[h]at hr;cases hr),fun j hj=> ?_⟩;by_cases a2:j=i
  ·subst a2;exact .inl fun T d=>hy.wpOp hi (a6 _ T d hS) ⟨a6 _ T d hS,H.re hQ T d⟩
  ·have h1:=H.2 j (ready_mono hj a2)
   obtain⟨a4,oj,a9,a7⟩:=mem_ready.1 hj;have a8:∀e∈oj.after,Region.binds .any e=true→e.on≠i:=fun e he hb b3=>by
    have h1:=a7 e he hb;have h0:=(mem_ready.1 hr).1;rw[b3]at h1;rcases mX i a0.size with h' |h'
    ·simp[h']at h0 h1;rw[h0]at h1;cases h1
    ·simp[mY h']at h1
   have h2:=FC a9 (a1 j oj a9 a2 a4 a8) (fun cs b=>a5 i oi cs b hi) (fun cs b=>a5 j oj cs b a9) hy h1;have a3 :∀k ok,ops[k]? =some ok→k≠i→(a0.setIfInBounds j true).getD k true=false→
     (∀e∈ok.after,Region.binds .any e=true→e.on≠i)→oi.apart ops ok=true:=fun k ok hk b4 b2 b5=>by
    refine a1 k ok hk b4 ?_ b5;by_cases b1:j=k
    ·subst b1;exact a4
    ·rw[getD_set_ne true b1]at b2;exact b2
   refine OpT.mono (fun a' w' h3=>⟨h3.2.1,ih (a0.setIfInBounds j true) a' w' a3 (ready_mono hr (Ne.symm a2)) h3.1 h3.2.1 ?_⟩) h2;rw[mZ _ _ a2];exact h3.2.2
theorem zi {i:Nat}{oi:Oper}{v:eB}{n:Nat}{a0:Array Bool}(hQ:ReC Q)(a1:∀w T d,S w→S (mG w T d))(hi:ops[i]? =some oi)(hs:Region.noSelect ops=true)(hf:Region.free .any ops a0 i=true)(hr:(Region.ready .any ops a0).contains i=true)(hw:Region.wanted oi (yielded ops a.tmps)=true)
  (hv:∀(W:eX),S W→∀(K:Result Next→Prop),K (.ok (.value v) W)→K ((execOp a.eval oi).run P W))(hS:S w)(h:xm P ops Q S n (a0.setIfInBounds i true) (a.put oi.dst v) w):xm P ops Q S (n+1) a0 a w:=
 xm.first hQ a1 hi (Region.noSelect_spec hs) n a0 a w (Region.free_spec hi hf) (by simpa using hr) (.inl ⟨hw,fun W hW=>hv W hW (·= .ok (.value v) W) rfl⟩) hS h
theorem anyT_all {rs:List Nat}{n:Nat}{a0:Array Bool}(hr:Region.ready .any ops a0=rs)(a1:rs≠ [])(h:∀i∈rs,OpT P ops i (fun a' w' =>S w' ∧xm P ops Q S n (a0.setIfInBounds i true) a' w') a w):xm P ops Q S (n+1) a0 a w:=
 ⟨fun h0=>absurd (hr▸h0) a1,hr▸h⟩
theorem anyT_one {i:Nat}{n:Nat}{a0:Array Bool}(hr:Region.ready .any ops a0=[i])(h:OpT P ops i (fun a' w' =>S w' ∧xm P ops Q S n (a0.setIfInBounds i true) a' w') a w):xm P ops Q S (n+1) a0 a w:=
 anyT_all hr (by simp) fun j hj=>by
  obtain rfl:j=i:=by simpa using hj
  exact h
theorem Yf {i:Nat}{n:Nat}{a0:Array Bool}{o:Oper}{f:FuncId}{args:Array mM}{a3:Array TypeId}{vals:Array eB}{a2:Func}{R:eB→eX→Prop}(hr:Region.ready .any ops a0=[i])(ho:ops[i]? =some o)(hw:Region.wanted o (yielded ops a.tmps)=true)(a5:o.op= .call {callee:= .value (.func f),args,argTypes:=a3})(hv:args.map a.eval=vals)
  (hf:P.funcs[f]? =some a2)(a1:(a2.name== "runtime.NumGoroutine")=false)(a4:a2.body.isNone=false)(hc:zF P f vals w R)(hn:∀v w',R v w' →S w' ∧xm P ops Q S n (a0.setIfInBounds i true) (a.put o.dst v) w'):xm P ops Q S (n+1) a0 a w:=
 anyT_one hr (.inr ⟨o,f,args,a3,a2,R,ho,hw,a5,hf,a1,a4,hv▸hc,hn⟩)
theorem anyT_op {i:Nat}{n:Nat}{a0:Array Bool}(hr:Region.ready .any ops a0=[i])(h:∀T d,wpOp P ops NoQ i (fun a' w' =>S w' ∧xm P ops Q S n (a0.setIfInBounds i true) a' w') a (re w T d)):xm P ops Q S (n+1) a0 a w:=anyT_one hr (.inl h)
theorem Cr {i:Nat}{n:Nat}{a0:Array Bool}{o:Oper}(hr:Region.ready .any ops a0=[i])(ho:ops[i]? =some o)(hw:Region.wanted o (yielded ops a.tmps)=true)
  (h:∀T d,∃v w',(execOp a.eval o).run P (re w T d)= .ok (.value v) w' ∧S w' ∧xm P ops Q S n (a0.setIfInBounds i true) (a.put o.dst v) w'):xm P ops Q S (n+1) a0 a w:=
 anyT_op hr fun T d=>by
  obtain⟨v,w',h1,h2,h3⟩:=h T d;unfold wpOp;simp only[ho,hw,if_true];refine .inl ?_;unfold Oper.wp;rw[h1];exact⟨h2,h3⟩
theorem YM {a0:Array Bool}(hr:Region.ready .any ops a0=[])(h:Q .normal a w):∀n,xm P ops Q S n a0 a w
 |0=>⟨hr,h⟩
 |_+1=>⟨fun _=>h,fun i hi=>by rw[hr]at hi;cases hi⟩
theorem Vh (hP:zH P)(hm:P.follows .mixedOrders=true)(hQ:ReC Q)(S:eX→Prop)(hS:∀w T d,S w→S (mG w T d)){id:Nat}(h:xm P ops Q S ops.size (mL ops.size false) a w):wpT P fn (.region id ops true) Q a w:=by
 intro b k cs Z hF hO hb hc;refine(ToE.lone (Q:=fun g w' =>∃t,g=G (b.at a (.inRegion ops (Region.linearise.go .any ops ops.size t (mL ops.size false) [])::k)) cs∧∃T d,w' =mG w T d) hP (fun g w' T d ⟨t,e,T',d',e'⟩=>⟨t,e,T,d,by rw[e'];rfl⟩) (hO.cons (by trivial)).fit (fun T d=>⟨1,G (b.at a (.inRegion ops (Region.linearise.go .any ops ops.size (T d (.order b.fn id)) (mL ops.size false) [])::k)) cs,mG w T (d+1),?_,⟨_,rfl,T,d+1,rfl⟩,rfl,rfl⟩)).trans fun g w' ⟨⟨t,e,T,d,e'⟩,_⟩=> ?_
 ·simp only[runN]
  rw[show step P (solo (G (b.at a (.code (.region id ops true)::k)) cs) (mG w T d))=_ from step_lone_go (stepG_region_draw (main:=true))];simp only[Region.schedule,hm,mP,if_true];rfl
 ·subst e e'
  exact(h.go hP hQ hS t b k cs Z hF hO hb hc).rt T d
end
