import Derived.Test.YtolgebdmffcemaaGreatDoorQ07
import Derived.Conc.CompanyCalls
import Derived.Conc.CompanyDraw
import Derived.Conc.DeferLaws
import Derived.Conc.PipeGen
import Derived.Conc.Quits
set_option linter.all false
set_option maxHeartbeats 20000000
set_option maxRecDepth 1000000
open Nat renaming strongRecOn→lP,le_refl→eP,lt_of_lt_of_le→lE
open List renaming range→lQ
open Array renaming replicate→lO
open Go.Frame renaming finish_at→lM,enter→eW
open Go.Builtin renaming close_→lR
namespace Go.Proofs.YtolgebdmffcemaaGreatDoor
open Go Go.Conc
def RA (Old A:Blk):World→World→Prop:=Rel Old A
def DA (Old A:Blk):World→World→Array Event→Prop:=fun w w' es=>yK Old A A w w' es
theorem Xf (Old A:Blk):Terms (RA Old A) (DA Old A):=⟨fun _ _ _ h k=>Rel.trans h k,fun w=>yK.idle Old A w⟩
section
variable {P:Program}{main:Bool}{Old A:Blk}{Stop:Goroutine→World→Prop}{g:Goroutine}{w:World}
end
def Qp (P:Program)(main:Bool)(Old:Blk)(Z:Blk→Goroutine→World→Prop)(b:Frame)(k:List Item)(cs:List Frame):Exit→Blk→Act→World→Prop
 | .normal,A,a,w=>OW P main Old Z A (G (b.at a k) cs) w
 | .exit id,A,a,w=>∃k',exitTo id k=some k' ∧OW P main Old Z A (G (b.at a k') cs) w
 | .ret,A,a,w=>∀todo,OW P main Old Z A (G {b.at a todo with mode:= .returning} cs) w
 |_,_,_,_=>False
def wpO (P:Program)(main:Bool)(Old:Blk)(fn:FuncId)(c:Code)(Q:Exit→Blk→Act→World→Prop)(A:Blk)(a:Act)(w:World):Prop:=
 ∀(b:Frame) (k:List Item) (cs:List Frame) (Z:Blk→Goroutine→World→Prop),b.fn=fn→b.kind≠ .early→(∀e A' a' w',Q e A' a' w' →Qp P main Old Z b k cs e A' a' w')→OW P main Old Z A (G (b.at a (.code c::k)) cs) w
def Ym (P:Program)(main:Bool)(Old:Blk)(fn:FuncId)(ops:Array Oper)(todo:List Nat)(Q:Exit→Blk→Act→World→Prop)(A:Blk)(a:Act)(w:World):Prop:=
 ∀(b:Frame) (k:List Item) (cs:List Frame) (Z:Blk→Goroutine→World→Prop),b.fn=fn→b.kind≠ .early→(∀e A' a' w',Q e A' a' w' →Qp P main Old Z b k cs e A' a' w')→OW P main Old Z A (G (b.at a (.inRegion ops todo::k)) cs) w
def zK (next:Blk→Act→World→Prop)(Q:Exit→Blk→Act→World→Prop):Exit→Blk→Act→World→Prop
 | .normal,A,a,w=>next A a w
 |e,A,a,w=>Q e A a w
def ZA (id:Nat)(Q:Exit→Blk→Act→World→Prop):Exit→Blk→Act→World→Prop
 | .exit id',A,a,w=>if id' =id then Q .normal A a w else Q (.exit id') A a w
 |e,A,a,w=>Q e A a w
section
variable {P:Program}{main:Bool}{Old A:Blk}{fn:FuncId}{Q Q' :Exit→Blk→Act→World→Prop}{a:Act}{w:World}
theorem Qp.push {Z:Blk→Goroutine→World→Prop}{b:Frame}{x:Item}{k:List Item}{cs:List Frame}{e:Exit}{A:Blk}{a:Act}{w:World}(hx:x.plain=true)(he:e≠ .normal)(h:Qp P main Old Z b k cs e A a w):Qp P main Old Z b (x::k) cs e A a w:=by
 cases e with
 |normal=>exact absurd rfl he
 |exit id=>obtain⟨k',hk,hg⟩:=h;exact⟨k',by cases x<;>simp_all [exitTo,Item.plain],hg⟩
 |ret=>exact h
 |goto l=>exact h
 |panic ch=>exact h
 |outgrown=>exact h
theorem U_ {c:Code}(h:wpO P main Old fn c Q A a w)(hq:∀e A a w,Q e A a w→Q' e A a w):wpO P main Old fn c Q' A a w:=fun b k cs Z hb hk hc=>h b k cs Z hb hk fun e A' a' w' q=>hc e A' a' w' (hq _ _ _ _ q)
theorem fq {ops:Array Oper}{l:List Nat}{w1:World}(h:Ym P main Old fn ops l Q A a w)(hr:Rel Old A w w1):Ym P main Old fn ops l Q A a w1:=fun b k cs Z hb hk hc=>(h b k cs Z hb hk hc).rely hr
theorem wpO_seq {x y:Code}(h:wpO P main Old fn x (zK (wpO P main Old fn y Q) Q) A a w):wpO P main Old fn (.seq x y) Q A a w:=by
 intro b k cs Z hb hk hc;refine OW.ctl rfl (fun w=>stepG_seq) (h b (.code y::k) cs Z hb hk fun e A' a' w' q=> ?_)
 cases e with
 |normal=>exact q b k cs Z hb hk hc
 |exit id=>exact(hc _ _ _ _ q).push rfl (by simp)
 |ret=>exact(hc _ _ _ _ q).push (x:= .code y) rfl (by simp)
 |goto l=>exact hc _ _ _ _ q
 |panic ch=>exact hc _ _ _ _ q
 |outgrown=>exact hc _ _ _ _ q
theorem Vd {x y:Code}(M:Blk→Act→World→Prop)(hx:wpO P main Old fn x (zK M Q) A a w)(hy:∀A' a' w',M A' a' w' →wpO P main Old fn y Q A' a' w'):wpO P main Old fn (.seq x y) Q A a w:=
 wpO_seq (U_ hx fun e A' a' w' q=>by cases e<;>first|exact hy _ _ _ q|exact q)
theorem Zn {c:Operand}{x y:Code}{t:Bool}(hc:a.eval c= .bool t)(h:wpO P main Old fn (if t then x else y) Q A a w):wpO P main Old fn (.cond c x y) Q A a w:=
 fun b k cs Z hb hk hq=>OW.ctl rfl (fun w=>stepG_cond hc) (h b k cs Z hb hk hq)
theorem Yr {id:Nat}{c:Code}(h:wpO P main Old fn c (ZA id Q) A a w):wpO P main Old fn (.block id c) Q A a w:=by
 intro b k cs Z hb hk hc;refine OW.ctl rfl (fun w=>stepG_block) (h b (.inBlock id::k) cs Z hb hk fun e A' a' w' q=> ?_)
 cases e with
 |normal=>exact OW.ctl rfl (fun w=>stepG_inBlock) (hc _ _ _ _ q)
 |exit a1 =>
  by_cases a0:a1 =id
  ·simp only[ZA,a0,if_true]at q
   exact⟨k,by simp[exitTo,a0],hc _ _ _ _ q⟩
  ·simp only[ZA,a0,if_false]at q
   obtain⟨k',a2,hg⟩:=hc _ _ _ _ q;have:(id==a1)=false:=by simp;exact fun h=>a0 h.symm
   exact⟨k',by simp[exitTo,this,a2],hg⟩
 |ret=>exact hc _ _ _ _ q
 |goto l=>exact hc _ _ _ _ q
 |panic ch=>exact hc _ _ _ _ q
 |outgrown=>exact hc _ _ _ _ q
theorem yk (h:Q .normal A a w):wpO P main Old fn .skip Q A a w:=fun b k cs Z hb hk hc=>OW.ctl rfl (fun w=>stepG_skip) (hc _ _ _ _ h)
theorem KT (h:Q .ret A a w):wpO P main Old fn .ret Q A a w:=fun b k cs Z hb hk hc=>OW.ctl rfl (fun w=>stepG_ret') (hc _ _ _ _ h _)
theorem jh {id:Nat}(h:Q (.exit id) A a w):wpO P main Old fn (.exit id) Q A a w:=fun b k cs Z hb hk hc=>by
 obtain⟨k',a0,ht⟩:=hc _ _ _ _ h;exact OW.ctl rfl (fun w=>stepG_exit a0) ht
theorem jg {c:Code}(I:Blk→Act→World→Prop)(μ:Blk→Act→World→Nat)(h₀:I A a w)(round:∀A a w,I A a w→wpO P main Old fn c (zK (fun A' a' w' =>I A' a' w' ∧μ A' a' w' <μ A a w) Q) A a w):wpO P main Old fn (.loop c) Q A a w:=by
 intro b k cs Z hb hk hc;have key:∀n A a w,μ A a w=n→I A a w→OW P main Old Z A (G (b.at a (.code c:: .inLoop c::k)) cs) w:=by
  intro n;induction n using lP with
  |_ n ih=>
   intro A a w hn hI;refine round A a w hI b (.inLoop c::k) cs Z hb hk fun e A' a' w' q=> ?_
   cases e with
   |normal=>exact OW.ctl rfl (fun w=>stepG_inLoop) (ih (μ A' a' w') (hn▸q.2) A' a' w' rfl q.1)
   |exit id=>exact(hc _ _ _ _ q).push rfl (by simp)
   |ret=>exact(hc _ _ _ _ q).push (x:= .inLoop c) rfl (by simp)
   |goto l=>exact hc _ _ _ _ q
   |panic ch=>exact hc _ _ _ _ q
   |outgrown=>exact hc _ _ _ _ q
 exact OW.ctl rfl (fun w=>stepG_loop) (key _ A a w rfl h₀)
theorem zk {id:Nat}{ops:Array Oper}(h:Ym P main Old fn ops (lQ ops.size) Q A a w):wpO P main Old fn (.region id ops false) Q A a w:=
 fun b k cs Z hb hk hc=>OW.ctl rfl (fun w=>stepG_region) (h b k cs Z hb hk hc)
theorem zn {ops:Array Oper}(h:Q .normal A a w):Ym P main Old fn ops [] Q A a w:=fun b k cs Z hb hk hc=>OW.ctl rfl (fun w=>stepG_region_end) (hc _ _ _ _ h)
theorem opsO_cons {ops:Array Oper}{i:Nat}{rest:List Nat}{o:Oper}(ho:ops[i]? =some o)(hw:Region.wanted o (yielded ops a.tmps)=true)
  (h:∀w1,Rel Old A w w1→∃v w' A',((execOp a.eval o).run P w1= .ok (.value v) w' ∨((execOp a.eval o).run P w1= .ok .skip w' ∧v=undef))∧yK Old A A' w1 w' (listed P fn a o w1)∧Ym P main Old fn ops rest Q A' (a.put o.dst v) w'):Ym P main Old fn ops (i::rest) Q A a w:=by
 intro b k cs Z hb hk hc;refine OW.one rfl fun w1 h1=> ?_
 obtain⟨v,w',A',hr,hG,hn⟩:=h w1 h1;refine⟨G (b.at (a.put o.dst v) (.inRegion ops rest::k)) cs,w',listed P b.fn a o w1,A',?_,hb▸hG,hn b k cs Z hb hk hc⟩;rcases hr with hr|⟨hr,rfl⟩
 ·exact stepG_value ho hw hk hr
 ·exact stepG_none ho hw hk hr
theorem zI {ops:Array Oper}{i:Nat}{rest:List Nat}{o:Oper}(ho:ops[i]? =some o)(hw:Region.wanted o (yielded ops a.tmps)=true)
  (h:∀w1,Rel Old A w w1→∀K:Act→World→Prop,(∀a' w' A',yK Old A A' w1 w' (listed P fn a o w1)→Ym P main Old fn ops rest Q A' a' w' →K a' w')→uponK o a K ((execOp a.eval o).run P w1)):Ym P main Old fn ops (i::rest) Q A a w:=by
 refine opsO_cons ho hw fun w1 h1=> ?_
 have:=h w1 h1 (fun a' w' =>∃A',yK Old A A' w1 w' (listed P fn a o w1)∧Ym P main Old fn ops rest Q A' a' w') (fun a' w' A' hg hn=>⟨A',hg,hn⟩);revert this
 cases(execOp a.eval o).run P w1 with
 |ok x w' =>
  cases x with
  |value v=>exact fun⟨A',hg,hn⟩=>⟨v,w',A',.inl rfl,hg,hn⟩
  |skip=>exact fun⟨A',hg,hn⟩=>⟨undef,w',A',.inr ⟨rfl,rfl⟩,hg,hn⟩
  |_=>exact fun h=>h.elim
 |halt x w' =>exact fun h=>h.elim
theorem Jr {ops:Array Oper}{i:Nat}{rest:List Nat}{o:Oper}(ho:ops[i]? =some o)(hw:Region.wanted o (yielded ops a.tmps)=false)(h:Ym P main Old fn ops rest Q A (a.put o.dst undef) w):Ym P main Old fn ops (i::rest) Q A a w:=
 fun b k cs Z hb hk hc=>OW.ctl rfl (fun w=>stepG_unwanted ho hw) (h b k cs Z hb hk hc)
theorem opsO_pure {ops:Array Oper}{i:Nat}{rest:List Nat}{o:Oper}{v:Value}(ho:ops[i]? =some o)(hw:Region.wanted o (yielded ops a.tmps)=true)(hr:∀W,(execOp a.eval o).run P W= .ok (.value v) W)(he:∀W,(execOp a.eval o).events P W #[]= #[])(hn:Ym P main Old fn ops rest Q A (a.put o.dst v) w):Ym P main Old fn ops (i::rest) Q A a w:=
 opsO_cons ho hw fun w1 h1=>⟨v,w1,A,.inl (hr w1),by rw[show listed P fn a o w1= #[]from by unfold listed;rw[he];exact seen_none P fn];exact yK.idle _ _ _,fq hn h1⟩
def uD (P:Program)(fn:Func)(Post:Blk→Value→World→Prop):Exit→Blk→Act→World→Prop
 | .normal,A,a,w| .ret,A,a,w=>a.defers=[]∧∃v,ResultsC P fn a.tmps v∧Post A v w
 |_,_,_,_=>False
def yB (P:Program)(main:Bool)(Old:Blk)(f:FuncId)(args:Array Value)(A:Blk)(w:World)(Post:Blk→Value→World→Prop):Prop:=
 ∃fn c,P.funcs[f]? =some fn∧(fn.name== "runtime.NumGoroutine")=false∧fn.body=some c∧wpO P main Old f c (uD P fn Post) A {tmps:=args++lO (fn.ntmps-args.size) undef,defers:=[]} w
theorem yQ {f:FuncId}{fn:Func}{c:Code}{args:Array Value}{Post:Blk→Value→World→Prop}(hf:P.funcs[f]? =some fn)(a0:(fn.name== "runtime.NumGoroutine")=false)(hb:fn.body=some c)
  (h:wpO P main Old f c (uD P fn Post) A {tmps:=args++lO (fn.ntmps-args.size) undef,defers:=[]} w):yB P main Old f args A w Post:=⟨fn,c,hf,a0,hb,h⟩
theorem yB.mono {f:FuncId}{args:Array Value}{Post a0 :Blk→Value→World→Prop}(h:yB P main Old f args A w Post)(hp:∀A v w,Post A v w→a0 A v w):yB P main Old f args A w a0 :=by
 obtain⟨fn,c,hf,hn,hb,hw⟩:=h;refine⟨fn,c,hf,hn,hb,U_ hw fun e A a w q=> ?_⟩
 cases e<;>first|exact⟨q.1,q.2.choose,q.2.choose_spec.1,hp _ _ _ q.2.choose_spec.2⟩|exact q
theorem opsO_call {ops:Array Oper}{i:Nat}{rest:List Nat}{o:Oper}{f:FuncId}{args:Array Operand}{b1:Array TypeId}{Post:Blk→Value→World→Prop}(ho:ops[i]? =some o)(hw:Region.wanted o (yielded ops a.tmps)=true)(a9:o.op= .call {callee:= .value (.func f),args,argTypes:=b1})
  (a4:yB P main Old f (args.map a.eval) A w Post)(a5:∀A' v w',Post A' v w' →Ym P main Old fn ops rest Q A' (a.put o.dst v) w'):Ym P main Old fn ops (i::rest) Q A a w:=by
 intro b k cs Z hb hk hc;obtain⟨a6,c,hf,a2,a1,b2⟩:=a4;have a7:∀v,(b.at a (.inRegion ops (i::rest)::k)).finish v=b.at (a.put o.dst v) (.inRegion ops rest::k):=fun v=>by rw[lM,ho];rfl
 have a0:∀(A' :Blk) (a' :Act) (w' :World) (todo:List Item),(a'.defers=[]∧∃v,ResultsC P a6 a'.tmps v∧Post A' v w')→
   OW P main Old Z A' (G {(base f).at a' todo with mode:= .returning} (b.at a (.inRegion ops (i::rest)::k)::cs)) w' :=by
  rintro A' a' w' todo ⟨hd,v,hr,hp⟩;refine OW.ctl (g' :=G (b.at (a.put o.dst v) (.inRegion ops rest::k)) cs) rfl (fun w1=> ?_) (a5 A' v w' hp b k cs Z hb hk hc);rw[stepG_leave (b:=base f) rfl hd hf (hr w1).1 (hr w1).2,a7]
 have a3:OW P main Old Z A (G ((base f).at {tmps:=args.map a.eval++lO (a6.ntmps-(args.map a.eval).size) undef,defers:=[]} [.code c]) (b.at a (.inRegion ops (i::rest)::k)::cs)) w:=by
  refine b2 (base f) [] _ Z rfl (by simp[base]) fun e A' a' w' q=> ?_
  cases e with
  |normal=>exact OW.ctl rfl (fun w=>stepG_end) (a0 A' a' w' [] q)
  |ret=>exact fun todo=>a0 A' a' w' todo q
  |exit id=>exact q.elim
  |goto l=>exact q.elim
  |panic ch=>exact q.elim
  |outgrown=>exact q.elim
 refine OW.ctl rfl (fun w1=> ?_) a3;have a8 :a6.body.isNone=false:=by rw[a1];rfl
 rw[stepG_enter ho hw hk (run_call_body a9 hf a2 a8),enter_at _ hf a1];unfold listed;rw[events_call_body a9 hf a2 a8];rw[seen_none]
theorem xL {ops:Array Oper}{i:Nat}{rest:List Nat}{o:Oper}{f:FuncId}{args:Array Operand}{a2:Array TypeId}{vals:Array Value}{Post:Blk→Value→World→Prop}(ho:ops[i]? =some o)(hw:Region.wanted o (yielded ops a.tmps)=true)(a3:o.op= .call {callee:= .value (.func f),args,argTypes:=a2})(hv:args.map a.eval=vals)
  (a0:yB P main Old f vals A w Post)(a1:∀A' v w',Post A' v w' →Ym P main Old fn ops rest Q A' (a.put o.dst v) w'):Ym P main Old fn ops (i::rest) Q A a w:=
 opsO_call ho hw a3 (hv▸a0) a1
end
theorem cn {Old A:Blk}:LetsDraw (DA Old A):=fun w=>⟨rfl,rfl,rfl,eP _,fun _ h=>h,fun _ h=> .inl h,fun _ _ _=>rfl,by simp⟩
theorem Xi {Old A:Blk}(w:World):RA Old A w {w with drawn:=w.drawn+1}:=⟨rfl,rfl,rfl,eP _,fun _ _=>rfl⟩
section
variable {P:Program}{main:Bool}{Old A:Blk}{fn:FuncId}{ops:Array Oper}{Q:Exit→Blk→Act→World→Prop}{md:Region.Mode}{a:Act}{w:World}
def Go_ (P:Program)(main:Bool)(Old:Blk)(fn:FuncId)(md:Region.Mode)(ops:Array Oper)(Q:Exit→Blk→Act→World→Prop)(fuel:Nat)(listed:Array Bool)(A:Blk)(a:Act)(w:World):Prop:=
 ∀t,Ym P main Old fn ops (Region.linearise.go md ops fuel t listed []) Q A a w
theorem wpO_region_draw {id:Nat}(hm:P.follows .mixedOrders=true)(h:∀w1,Rel Old A w w1→Go_ P main Old fn .any ops Q ops.size (lO ops.size false) A a {w1 with drawn:=w1.drawn+1}):wpO P main Old fn (.region id ops true) Q A a w:=by
 intro b k cs Z hb hk hc;refine OW.one rfl fun w1 h1=>⟨_,_,_,A,stepG_region_draw,cn w1,?_⟩
 have:=h w1 h1 (w1.tape w1.drawn (.order b.fn id)) b k cs Z hb hk hc;simp only[Region.schedule,hm,Bool.true_or,if_true];exact this
theorem cC {a0:Array Bool}(hr:Region.ready md ops a0=[])(h:Q .normal A a w):∀a1,Go_ P main Old fn md ops Q a1 a0 A a w
 |0=>fun t=>by simpa[Region.linearise.go]using zn h
 |f+1=>fun t=>by
  simp only[Region.linearise.go];change Ym P main Old fn ops (match(Region.ready md ops a0)[t % (Region.ready md ops a0).length]? with
   |some i=>Region.linearise.go md ops f (t/(Region.ready md ops a0).length) (a0.setIfInBounds i true) [i]
   |none=> [].reverse) Q A a w
  rw[hr];exact zn h
theorem Be {rs:List Nat}{a1:Nat}{a0:Array Bool}(hr:Region.ready md ops a0=rs)(a4:rs≠ [])(h:∀i∈rs,∀t,Ym P main Old fn ops (i::Region.linearise.go md ops a1 t (a0.setIfInBounds i true) []) Q A a w):Go_ P main Old fn md ops Q (a1+1) a0 A a w:=by
 intro t;have a2:0<rs.length:=List.length_pos_iff.2 a4;have a3:t % rs.length<rs.length:=Nat.mod_lt _ a2;simp only[Region.linearise.go];change Ym P main Old fn ops (match(Region.ready md ops a0)[t % (Region.ready md ops a0).length]? with
  |some i=>Region.linearise.go md ops a1 (t/(Region.ready md ops a0).length) (a0.setIfInBounds i true) [i]
  |none=> [].reverse) Q A a w
 rw[hr,List.getElem?_eq_getElem a3];simp only[];rw[linearise_go_acc,List.reverse_singleton,List.singleton_append];exact h _ (List.getElem_mem a3) _
theorem oR {i:Nat}{rest:List Nat}(h:OpC P (RA Old A) (DA Old A) fn ops i (fun a' w' =>Ym P main Old fn ops rest Q A a' w') a w):Ym P main Old fn ops (i::rest) Q A a w:=by
 unfold OpC at h;split at h
 ·exact h.elim
 ·rename_i o ho
  split at h
  ·rename_i hw
   refine zI ho hw fun w1 h1 K hK=> ?_
   exact uponK_mono (fun a' w' x=>hK a' w' A x.1 x.2) (h w1 h1)
  ·rename_i hw
   exact Jr ho (by simpa using hw) h
theorem z8 {i:Nat}{rest:List Nat}{o:Oper}{v:Value}(ho:ops[i]? =some o)(hw:Region.wanted o (yielded ops a.tmps)=true)(hv:∀(W:World) (K:Result Next→Prop),K (.ok (.value v) W)→K ((execOp a.eval o).run P W))(he:∀W:World,(execOp a.eval o).events P W #[]= #[])(hn:Ym P main Old fn ops rest Q A (a.put o.dst v) w):Ym P main Old fn ops (i::rest) Q A a w:=
 opsO_pure ho hw (fun W=>hv W (·= .ok (.value v) W) rfl) he hn
def OpX (P:Program)(main:Bool)(Old A:Blk)(fn:FuncId)(ops:Array Oper)(i:Nat)(K:Act→World→Prop)(a:Act)(w:World):Prop:=
 OpC P (RA Old A) (DA Old A) fn ops i K a w∨∃(o:Oper) (f:FuncId) (args:Array Operand) (ats:Array TypeId) (Post:Value→World→Prop),ops[i]? =some o∧Region.wanted o (yielded ops a.tmps)=true∧o.op= .call {callee:= .value (.func f),args,argTypes:=ats}∧
  yB P main Old f (args.map a.eval) A w (fun A' v w' =>A' =A∧Post v w')∧∀v w',Post v w' →K (a.put o.dst v) w'
theorem g7 {i:Nat}{K K' :Act→World→Prop}(h:∀a w,K a w→K' a w)(hh:OpX P main Old A fn ops i K a w):OpX P main Old A fn ops i K' a w:=by
 rcases hh with hh|⟨o,f,args,a0,Post,h1,h2,h3,h4,h5⟩
 ·exact .inl (OpC_mono h hh)
 ·exact .inr ⟨o,f,args,a0,Post,h1,h2,h3,h4,fun v w' hp=>h _ _ (h5 v w' hp)⟩
theorem oQ {i:Nat}{rest:List Nat}(h:OpX P main Old A fn ops i (fun a' w' =>Ym P main Old fn ops rest Q A a' w') a w):Ym P main Old fn ops (i::rest) Q A a w:=by
 rcases h with h|⟨o,f,args,a0,Post,h1,h2,h3,h4,h5⟩
 ·exact oR h
 ·exact opsO_call h1 h2 h3 h4 fun A' v w' ⟨e,hp⟩=>by subst e;exact h5 v w' hp
theorem VJ (args:Array Operand)(a:Act)(a0:Option Tmp)(v:Value)(h:∀d,a0=some d→∀x∈args,x≠ .tmp d):args.map (a.put a0 v).eval=args.map a.eval:=by
 apply Array.map_congr_left;intro x hx;exact Act.eval_put fun d hd a1=>h d hd x hx a1
def C9 (ops:Array Oper)(o:Oper)(a a' :Act):Prop:=execOp a'.eval o=execOp a.eval o∧Region.wanted o (yielded ops a'.tmps)=Region.wanted o (yielded ops a.tmps)
theorem Fj {j:Nat}{oi oj:Oper}{v:Value}(hj:ops[j]? =some oj)(a1:oi.apart ops oj=true)(a2:∀cs b,oi.op≠ .select cs b)(a3:∀cs b,oj.op≠ .select cs b){K:Act→World→Prop}
  (h:OpX P main Old A fn ops j K (a.put oi.dst v) w):OpX P main Old A fn ops j (fun a' w' =>C9 ops oi a a' ∧K (a'.put oi.dst v) w') a w:=by
 obtain⟨p1,p2,p3⟩:=Oper.apart_spec a1;have keep:∀u,C9 ops oi a (a.put oj.dst u):=fun u=>⟨execOp_put oi a2 a oj.dst u p3,wanted_put oi a oj.dst u p3⟩
 rcases h with h|⟨o,f,args,a0,Post,h1,h2,h3,h4,h5⟩
 ·left
  unfold OpC at*;simp only[hj]at*;rw[wanted_put oj a oi.dst v p1]at h;split
  ·rename_i hw
   simp only[hw,if_true]at h;intro w1 r1;have h:=h w1 r1;unfold listed at*;rw[execOp_put oj a3 a oi.dst v p1]at h;generalize(execOp a.eval oj).run P w1=r at*
   cases r with
   |ok n w' =>
    cases n<;>simp only[uponK]at h⊢
    case value u=>exact⟨h.1,keep u,by rw[←Act.put_comm a v u p2];exact h.2⟩
    case skip=>exact⟨h.1,keep _,by rw[←Act.put_comm a v undef p2];exact h.2⟩
   |halt x w' =>simp only[uponK]at h
  ·rename_i hw
   simp only[hw]at h;exact⟨keep _,by rw[←Act.put_comm a v undef p2];exact h⟩
 ·rw[hj]at h1
  obtain rfl:=Option.some.inj h1;refine .inr ⟨oj,f,args,a0,Post,hj,by rw[←wanted_put oj a oi.dst v p1];exact h2,h3,?_,fun u w' hp=>⟨keep u,by rw[←Act.put_comm a v u p2];exact h5 u w' hp⟩⟩;rw[VJ]at h4
  ·exact h4
  ·intro d hd x hx e
   subst e;refine p1 d hd (List.mem_append_left _ (List.mem_filterMap.2 ⟨.tmp d,?_,rfl⟩));simp only[h3,Op.operands,Call.operands];exact Array.mem_toList_iff.2 (Array.mem_append.2 (.inr hx))
def Yl (P:Program)(main:Bool)(Old A:Blk)(fn:FuncId)(md:Region.Mode)(ops:Array Oper)(Q:Exit→Blk→Act→World→Prop):Nat→Array Bool→Act→World→Prop
 |0,listed,a,w=>Region.ready md ops listed=[]∧∀w1,RA Old A w w1→Q .normal A a w1
 |n+1,listed,a,w=>(Region.ready md ops listed=[]→∀w1,RA Old A w w1→Q .normal A a w1)∧∀w1,RA Old A w w1→∀i∈Region.ready md ops listed,OpX P main Old A fn ops i (fun a' w' =>Yl P main Old A fn md ops Q n (listed.setIfInBounds i true) a' w') a w1
theorem Yl.rely:∀{n:Nat} {a0:Array Bool} {a:Act} {w w1:World},Yl P main Old A fn md ops Q n a0 a w→RA Old A w w1→Yl P main Old A fn md ops Q n a0 a w1
 |0,a0,a,w,w1,h,r=>⟨h.1,fun w2 h2=>h.2 w2 (r.trans h2)⟩
 |n+1,a0,a,w,w1,h,r=>⟨fun e w2 h2=>h.1 e w2 (r.trans h2),fun w2 h2=>h.2 w2 (r.trans h2)⟩
theorem Yl.go:∀{n:Nat} {a0:Array Bool} {a:Act} {w:World},Yl P main Old A fn md ops Q n a0 a w→Go_ P main Old fn md ops Q n a0 A a w
 |0,a0,a,w,h=>cC h.1 (h.2 w (Rel.refl _ _ _)) 0
 |n+1,a0,a,w,h=>by
  by_cases hr:Region.ready md ops a0=[]
  ·exact cC hr (h.1 hr w (Rel.refl _ _ _)) _
  ·exact Be rfl hr fun i hi t=>oQ (g7 (fun a' w' x=>Yl.go x t) (h.2 w (Rel.refl _ _ _) i hi))
abbrev bK (P:Program)(Old A:Blk)(fn:FuncId)(ops:Array Oper)(o:Oper)(v:Value)(a:Act):Prop:=YieldsIfC P (DA Old A) fn ops (fun _=>True) o v a
theorem Yl.first {i:Nat}{oi:Oper}{v:Value}(hi:ops[i]? =some oi)(a4:∀(j:Nat) (o:Oper) cs b,ops[j]? =some o→o.op≠ .select cs b):
  ∀(n:Nat) (a0:Array Bool) (a:Act) (w:World),
   (∀j oj,ops[j]? =some oj→j≠i→a0.getD j true=false→(∀e∈oj.after,Region.binds md e=true→e.on≠i)→oi.apart ops oj=true)→
   i∈Region.ready md ops a0→bK P Old A fn ops oi v a→
   Yl P main Old A fn md ops Q n (a0.setIfInBounds i true) (a.put oi.dst v) w→Yl P main Old A fn md ops Q (n+1) a0 a w:=by
 intro n;induction n with
 |zero=>
  intro a0 a w _ hr hy H;refine⟨fun h=>(by rw[h]at hr;cases hr),fun w1 h1 j hj=> ?_⟩;by_cases a2:j=i
  ·subst a2
   exact .inl (hy.opC (fun _ _ _ _=>trivial) hi (fun a x y h r=>h.rely r) trivial (H.rely h1))
  ·have:=ready_mono hj a2
   rw[H.1]at this
   cases this
 |succ n ih=>
  intro a0 a w a1 hr hy H;refine⟨fun h=>(by rw[h]at hr;cases hr),fun w1 h1 j hj=> ?_⟩;by_cases a2:j=i
  ·subst a2
   exact .inl (hy.opC (fun _ _ _ _=>trivial) hi (fun a x y h r=>h.rely r) trivial (H.rely h1))
  ·have h2:=H.2 w1 h1 j (ready_mono hj a2)
   obtain⟨a3,oj,a7,a5⟩:=mem_ready.1 hj;have a6:∀e∈oj.after,Region.binds md e=true→e.on≠i:=fun e he hb b1=>by
    have h3:=a5 e he hb;have h0:=(mem_ready.1 hr).1;rw[b1]at h3;rcases Nat.lt_or_ge i a0.size with h' |h'
    ·simp[h']at h0 h3;rw[h0]at h3;cases h3
    ·simp[Array.getElem?_eq_none h']at h3
   have h4:=Fj a7 (a1 j oj a7 a2 a3 a6) (fun cs b=>a4 i oi cs b hi) (fun cs b=>a4 j oj cs b a7) h2;refine g7 (fun a' w' h5=> ?_) h4;obtain⟨h6,h8⟩:=h5;rw[Array.setIfInBounds_comm _ _ (Ne.symm a2)]at h8;refine ih (a0.setIfInBounds j true) a' w' (fun k ok hk b2 a9 b3=> ?_) (ready_mono hr (Ne.symm a2)) (hy.of_same h6.1 h6.2) h8;refine a1 k ok hk b2 ?_ b3;by_cases a8:j=k
   ·subst a8;exact a3
   ·rw[getD_set_ne true a8]at a9;exact a9
theorem any_take {i:Nat}{oi:Oper}{v:Value}{n:Nat}{a0:Array Bool}(hi:ops[i]? =some oi)(hs:Region.noSelect ops=true)(hf:Region.free md ops a0 i=true)(hr:(Region.ready md ops a0).contains i=true)
  (hy:bK P Old A fn ops oi v a)(h:Yl P main Old A fn md ops Q n (a0.setIfInBounds i true) (a.put oi.dst v) w):Yl P main Old A fn md ops Q (n+1) a0 a w:=
 Yl.first hi (Region.noSelect_spec hs) n a0 a w (Region.free_spec hi hf) (by simpa using hr) hy h
theorem zd {i:Nat}{oi:Oper}{v:Value}{n:Nat}{a0:Array Bool}(hi:ops[i]? =some oi)(hs:Region.noSelect ops=true)(hf:Region.free md ops a0 i=true)(hr:(Region.ready md ops a0).contains i=true)(hw:Region.wanted oi (yielded ops a.tmps)=true)
  (hv:∀(W:World) (K:Result Next→Prop),K (.ok (.value v) W)→K ((execOp a.eval oi).run P W))(he:∀W:World,(execOp a.eval oi).events P W #[]= #[])(h:Yl P main Old A fn md ops Q n (a0.setIfInBounds i true) (a.put oi.dst v) w):Yl P main Old A fn md ops Q (n+1) a0 a w:=
 any_take hi hs hf hr (.inl ⟨hw,fun W _=>⟨hv W (·= .ok (.value v) W) rfl,by rw[show Conc.listed P fn a oi W= #[]from by unfold Conc.listed;rw[he];exact seen_none P fn];exact yK.idle _ _ _⟩⟩) h
theorem z_ {i:Nat}{oi:Oper}{n:Nat}{a0:Array Bool}(hi:ops[i]? =some oi)(hs:Region.noSelect ops=true)(hf:Region.free md ops a0 i=true)(hr:(Region.ready md ops a0).contains i=true)(hw:Region.wanted oi (yielded ops a.tmps)=false)
  (h:Yl P main Old A fn md ops Q n (a0.setIfInBounds i true) (a.put oi.dst undef) w):Yl P main Old A fn md ops Q (n+1) a0 a w:=
 any_take hi hs hf hr (.inr ⟨hw,rfl⟩) h
theorem any_all {rs:List Nat}{n:Nat}{a0:Array Bool}(hr:Region.ready md ops a0=rs)(a1:rs≠ [])(h:∀w1,RA Old A w w1→∀i∈rs,OpX P main Old A fn ops i (fun a' w' =>Yl P main Old A fn md ops Q n (a0.setIfInBounds i true) a' w') a w1):Yl P main Old A fn md ops Q (n+1) a0 a w:=
 ⟨fun h0=>absurd (hr▸h0) a1,fun w1 h1 i hi=>h w1 h1 i (hr▸hi)⟩
theorem qi {i:Nat}{n:Nat}{a0:Array Bool}{o:Oper}(ho:ops[i]? =some o)(hw:Region.wanted o (yielded ops a.tmps)=true)
  (h:∀w1,RA Old A w w1→∀K:Act→World→Prop,(∀a' w',DA Old A w1 w' (Conc.listed P fn a o w1)→Yl P main Old A fn md ops Q n (a0.setIfInBounds i true) a' w' →K a' w')→uponK o a K ((execOp a.eval o).run P w1)):
  OpX P main Old A fn ops i (fun a' w' =>Yl P main Old A fn md ops Q n (a0.setIfInBounds i true) a' w') a w:=by
 refine .inl ?_;unfold OpC;simp only[ho,hw,if_true];exact fun w2 h2=>h w2 h2 _ fun a' w' hd hn=>⟨hd,hn⟩
theorem zQ {i:Nat}{n:Nat}{a0:Array Bool}{o:Oper}(hr:Region.ready md ops a0=[i])(ho:ops[i]? =some o)(hw:Region.wanted o (yielded ops a.tmps)=true)
  (h:∀w1,RA Old A w w1→∀K:Act→World→Prop,(∀a' w',DA Old A w1 w' (Conc.listed P fn a o w1)→Yl P main Old A fn md ops Q n (a0.setIfInBounds i true) a' w' →K a' w')→uponK o a K ((execOp a.eval o).run P w1)):Yl P main Old A fn md ops Q (n+1) a0 a w:=
 any_all hr (by simp) fun w1 h1 j hj=>by
  obtain rfl:j=i:=by simpa using hj
  exact qi ho hw fun w2 h2=>h w2 (h1.trans h2)
theorem any_call {i:Nat}{n:Nat}{a0:Array Bool}{o:Oper}{f:FuncId}{args:Array Operand}{a1:Array TypeId}{Post:Value→World→Prop}(hr:Region.ready md ops a0=[i])(ho:ops[i]? =some o)(hw:Region.wanted o (yielded ops a.tmps)=true)(a2:o.op= .call {callee:= .value (.func f),args,argTypes:=a1})
  (hc:∀w1,RA Old A w w1→yB P main Old f (args.map a.eval) A w1 (fun A' v w' =>A' =A∧Post v w'))(hn:∀v w',Post v w' →Yl P main Old A fn md ops Q n (a0.setIfInBounds i true) (a.put o.dst v) w'):Yl P main Old A fn md ops Q (n+1) a0 a w:=
 any_all hr (by simp) fun w1 h1 j hj=>by
  obtain rfl:j=i:=by simpa using hj
  exact .inr ⟨o,f,args,a1,Post,ho,hw,a2,hc w1 h1,hn⟩
theorem uH {i:Nat}{n:Nat}{a0:Array Bool}{o:Oper}{f:FuncId}{args:Array Operand}{a1:Array TypeId}{vals:Array Value}{Post:Value→World→Prop}(hr:Region.ready md ops a0=[i])(ho:ops[i]? =some o)(hw:Region.wanted o (yielded ops a.tmps)=true)(a2:o.op= .call {callee:= .value (.func f),args,argTypes:=a1})(hv:args.map a.eval=vals)
  (hc:∀w1,RA Old A w w1→yB P main Old f vals A w1 (fun A' v w' =>A' =A∧Post v w'))(hn:∀v w',Post v w' →Yl P main Old A fn md ops Q n (a0.setIfInBounds i true) (a.put o.dst v) w'):Yl P main Old A fn md ops Q (n+1) a0 a w:=
 any_call hr ho hw a2 (hv▸hc) hn
theorem yS {a0:Array Bool}(hr:Region.ready md ops a0=[])(h:∀w1,RA Old A w w1→Q .normal A a w1):∀n,Yl P main Old A fn md ops Q n a0 a w
 |0=>⟨hr,h⟩
 |_+1=>⟨fun _=>h,fun w1 h1 i hi=>by rw[hr]at hi;cases hi⟩
theorem Xd {id:Nat}(hm:P.follows .mixedOrders=true)(h:∀w1,Rel Old A w w1→Yl P main Old A fn .any ops Q ops.size (lO ops.size false) a {w1 with drawn:=w1.drawn+1}):wpO P main Old fn (.region id ops true) Q A a w:=
 wpO_region_draw hm fun w1 h1=>(h w1 h1).go
end
def Xw (P:Program):Frame:={(default:Frame)with fn:=P.funcs.size,defers:=[],mode:= .panicking [goexitEntry]}
section
variable {P:Program}{main:Bool}{f:FuncId}{fn:Func}{args:Array Value}{c:Code}{w:World}
theorem gn (hf:P.funcs[f]? =some fn)(a0:(fn.name== "runtime.NumGoroutine")=false)(hb:fn.body=some c):
  stepG P main (born P (dcall f args)) w= .go (G ((baseD f).at {tmps:=args++lO (fn.ntmps-args.size) undef,defers:=[]} [.code c]) [Xw P]) w #[]:=by
 have h1:¬fn.name= "runtime.NumGoroutine" :=by simpa using a0
 rw[←enter_atD args hf hb];simp[born,G,stepG,unwind,callDeferred,dcall,invoke,callFunc,hf,h1,hb,GStep.after,seen_none,Xw]
def Xu (ats:Array TypeId)(ty:TypeId)(cs:Array Bool)(ch:Nat):Deferred:={target:= .builtin .close ats ty cs,args:= #[.chan (some ch)]}
section
variable {b:Frame}{a:Act}{k:List Item}{cs:List Frame}{ops:Array Oper}{i:Nat}{rest:List Nat}{o:Oper}
theorem Vj {x:Operand}{a0:Array TypeId}{ch:Nat}(ho:ops[i]? =some o)(hw:Region.wanted o (yielded ops a.tmps)=true)(hk:b.kind≠ .early)
  (a2:o.op= .defer {callee:= .builtin .close,args:= #[x],argTypes:=a0})(hx:a.eval x= .chan (some ch)):
  ∃ty bs,∀w,stepG P main (G (b.at a (.inRegion ops (i::rest)::k)) cs) w= .go (G (b.at (Act.put ⟨a.tmps,Xu a0 ty bs ch::a.defers⟩ o.dst undef) (.inRegion ops rest::k)) cs) w #[]:=by
 refine⟨o.type,(#[x]:Array Operand).map fun| .const _=>true|_=>false,fun w=> ?_⟩;have hr:(execOp a.eval o).run P w= .ok (.defer (Xu a0 o.type ((#[x]:Array Operand).map fun| .const _=>true|_=>false) ch)) w:=by
  unfold execOp;simp[a2,resolve,Xu,hx]
  cases x<;>rfl
 have he:(execOp a.eval o).events P w #[]= #[]:=by
  unfold execOp;simp[a2,resolve]
 have a1:(b.at ⟨a.tmps,Xu a0 o.type ((#[x]:Array Operand).map fun| .const _=>true|_=>false) ch::a.defers⟩ (.inRegion ops (i::rest)::k)).finish undef=b.at (Act.put ⟨a.tmps,Xu a0 o.type ((#[x]:Array Operand).map fun| .const _=>true|_=>false) ch::a.defers⟩ o.dst undef) (.inRegion ops rest::k):=by rw[lM,ho];rfl
 have a3 :(b.kind==CallKind.early)=false:=by simpa using hk
 rw[stepG_oper ho hw,←a1];simp[stepG.apply,hr,he,G,Frame.at,a3,GStep.after,seen_none]
theorem vq {a0:Array TypeId}{ty:TypeId}{bs:Array Bool}{ch s r:Nat}{tm:Bool}{todo:List Item}(hd:a.defers=[Xu a0 ty bs ch])(hc:w.heap[ch]? =some (.chan 0 #[] false s r tm))(hq:(P.funcs[b.fn]?).any (·.norace)=false):
  stepG P main (G {b.at a todo with mode:= .returning} cs) w= .go (G {b.at ⟨a.tmps,[]⟩ todo with mode:= .returning} cs) (w.shut ch s r tm) #[⟨.obj ch,false,true⟩,⟨.obj ch,true,true⟩]:=by
 have hr:(lR a0 ty #[.chan (some ch)]).run P w= .ok (.tuple #[]) (w.shut ch s r tm):=run_close_open _ _ hc;have he:(lR a0 ty #[.chan (some ch)]).events P w #[]= #[⟨.obj ch,false,true⟩,⟨.obj ch,true,true⟩]:=events_close_open _ _ hc;have hs:seen P b.fn #[⟨.obj ch,false,true⟩,⟨.obj ch,true,true⟩]= #[⟨.obj ch,false,true⟩,⟨.obj ch,true,true⟩]:=seen_eq hq (by simp);have h2:(invoke (.builtin .close a0 ty bs) #[.chan (some ch)]).run P w= .ok (.value (.tuple #[])) (w.shut ch s r tm):=by
  simp[invoke,builtin,go_sem,hr]
 have h3:(invoke (.builtin .close a0 ty bs) #[.chan (some ch)]).events P w #[]= #[⟨.obj ch,false,true⟩,⟨.obj ch,true,true⟩]:=by
  simp[invoke,builtin,go_sem,he]
 simp[G,stepG,unwind,callDeferred,Frame.at,hd,Xu,h2,h3,GStep.after,hs]
theorem oI {b:Frame}{todo:List Item}{tmps:Array Value}(hn:b.kind= .deferred)(hf:P.funcs[b.fn]? =some fn)(hr:fn.results= #[]):QuitsIn P 2 (G {b.at ⟨tmps,[]⟩ todo with mode:= .returning} [Xw P]):=by
 refine .ctl (g' :=G (Xw P) []) rfl (fun w=> ?_) (.ctl (g' :={G (Xw P) []with status:= .finished}) rfl (fun w=> ?_) rfl)
 ·have h1:=results_none hr tmps P w
  have h2:=events_results_none (P:=P) (w:=w) hr tmps;simp[G,stepG,unwind,doReturn,Frame.at,hn,hf,h1,h2,Xw,goexitEntry,seen,GStep.after]
 ·simp[G,stepG,unwind,Xw,goexitEntry,Frame.catches]
  rfl
end
end
section
variable (P:Program)(main:Bool)(Old:Blk)(St:List Value→Blk→Goroutine→World→Prop)(fn:FuncId)
def wpS (c:Code)(Q:Exit→List Value→Blk→Act→World→Prop)(vs:List Value)(A:Blk)(a:Act)(w:World):Prop:=
 ∀(b:Frame) (k:List Item) (cs:List Frame),b.fn=fn→b.kind≠ .early→(∀e vs' A' a' w',Q e vs' A' a' w' →Qp P main Old (St vs') b k cs e A' a' w')→OW P main Old (St vs) A (G (b.at a (.code c::k)) cs) w
def O_ (ops:Array Oper)(todo:List Nat)(Q:Exit→List Value→Blk→Act→World→Prop)(vs:List Value)(A:Blk)(a:Act)(w:World):Prop:=
 ∀(b:Frame) (k:List Item) (cs:List Frame),b.fn=fn→b.kind≠ .early→(∀e vs' A' a' w',Q e vs' A' a' w' →Qp P main Old (St vs') b k cs e A' a' w')→OW P main Old (St vs) A (G (b.at a (.inRegion ops todo::k)) cs) w
end
def yL (next:List Value→Blk→Act→World→Prop)(Q:Exit→List Value→Blk→Act→World→Prop):Exit→List Value→Blk→Act→World→Prop
 | .normal,vs,A,a,w=>next vs A a w
 |e,vs,A,a,w=>Q e vs A a w
def ye (id:Nat)(Q:Exit→List Value→Blk→Act→World→Prop):Exit→List Value→Blk→Act→World→Prop
 | .exit id',vs,A,a,w=>if id' =id then Q .normal vs A a w else Q (.exit id') vs A a w
 |e,vs,A,a,w=>Q e vs A a w
section
variable {P:Program}{main:Bool}{Old A:Blk}{St:List Value→Blk→Goroutine→World→Prop}{fn:FuncId}{Q Q' :Exit→List Value→Blk→Act→World→Prop}{vs:List Value}{a:Act}{w:World}
theorem qc {c:Code}{R:Exit→Blk→Act→World→Prop}(h:wpO P main Old fn c R A a w)(hq:∀e A a w,R e A a w→Q e vs A a w):wpS P main Old St fn c Q vs A a w:=
 fun b k cs hb hk hc=>h b k cs (St vs) hb hk fun e A' a' w' q=>hc e vs A' a' w' (hq e A' a' w' q)
theorem wpS_seq {x y:Code}(h:wpS P main Old St fn x (yL (wpS P main Old St fn y Q) Q) vs A a w):wpS P main Old St fn (.seq x y) Q vs A a w:=by
 intro b k cs hb hk hc;refine OW.ctl rfl (fun w=>stepG_seq) (h b (.code y::k) cs hb hk fun e a0 A' a' w' q=> ?_)
 cases e with
 |normal=>exact q b k cs hb hk hc
 |exit id=>exact(hc _ _ _ _ _ q).push rfl (by simp)
 |ret=>exact(hc _ _ _ _ _ q).push (x:= .code y) rfl (by simp)
 |goto l=>exact hc _ _ _ _ _ q
 |panic ch=>exact hc _ _ _ _ _ q
 |outgrown=>exact hc _ _ _ _ _ q
theorem UY {x y:Code}(M:Blk→Act→World→Prop)(hx:wpO P main Old fn x (zK M fun e A a w=>Q e vs A a w) A a w)(hy:∀A' a' w',M A' a' w' →wpS P main Old St fn y Q vs A' a' w'):wpS P main Old St fn (.seq x y) Q vs A a w:=
 wpS_seq (qc hx fun e A' a' w' q=>by cases e<;>first|exact hy _ _ _ q|exact q)
theorem Vc {c:Operand}{x y:Code}{t:Bool}(hc:a.eval c= .bool t)(h:wpS P main Old St fn (if t then x else y) Q vs A a w):wpS P main Old St fn (.cond c x y) Q vs A a w:=
 fun b k cs hb hk hq=>OW.ctl rfl (fun w=>stepG_cond hc) (h b k cs hb hk hq)
theorem JO {id:Nat}{c:Code}(h:wpS P main Old St fn c (ye id Q) vs A a w):wpS P main Old St fn (.block id c) Q vs A a w:=by
 intro b k cs hb hk hc;refine OW.ctl rfl (fun w=>stepG_block) (h b (.inBlock id::k) cs hb hk fun e a3 A' a' w' q=> ?_)
 cases e with
 |normal=>exact OW.ctl rfl (fun w=>stepG_inBlock) (hc _ _ _ _ _ q)
 |exit a1 =>
  by_cases a0:a1 =id
  ·simp only[ye,a0,if_true]at q
   exact⟨k,by simp[exitTo,a0],hc _ _ _ _ _ q⟩
  ·simp only[ye,a0,if_false]at q
   obtain⟨k',a2,hg⟩:=hc _ _ _ _ _ q;have:(id==a1)=false:=by simp;exact fun h=>a0 h.symm
   exact⟨k',by simp[exitTo,this,a2],hg⟩
 |ret=>exact hc _ _ _ _ _ q
 |goto l=>exact hc _ _ _ _ _ q
 |panic ch=>exact hc _ _ _ _ _ q
 |outgrown=>exact hc _ _ _ _ _ q
theorem Fp {c:Code}{n:Nat}(I:Nat→List Value→Blk→Act→World→Prop)(h₀:I n vs A a w)(round:∀n vs A a w,I n vs A a w→wpS P main Old St fn c (yL (fun a0 A' a' w' =>∃m,m<n∧I m a0 A' a' w') Q) vs A a w):wpS P main Old St fn (.loop c) Q vs A a w:=by
 intro b k cs hb hk hc;have key:∀n vs A a w,I n vs A a w→OW P main Old (St vs) A (G (b.at a (.code c:: .inLoop c::k)) cs) w:=by
  intro n;induction n using lP with
  |_ n ih=>
   intro vs A a w hI;refine round n vs A a w hI b (.inLoop c::k) cs hb hk fun e a0 A' a' w' q=> ?_
   cases e with
   |normal=>obtain⟨m,hm,q⟩:=q;exact OW.ctl rfl (fun w=>stepG_inLoop) (ih m hm a0 A' a' w' q)
   |exit id=>exact(hc _ _ _ _ _ q).push rfl (by simp)
   |ret=>exact(hc _ _ _ _ _ q).push (x:= .inLoop c) rfl (by simp)
   |goto l=>exact hc _ _ _ _ _ q
   |panic ch=>exact hc _ _ _ _ _ q
   |outgrown=>exact hc _ _ _ _ _ q
 exact OW.ctl rfl (fun w=>stepG_loop) (key n vs A a w h₀)
theorem UZ {id:Nat}(h:Q (.exit id) vs A a w):wpS P main Old St fn (.exit id) Q vs A a w:=qc (R:=fun e A a w=>Q e vs A a w) (jh h) fun _ _ _ _ q=>q
theorem UX (h:Q .normal vs A a w):wpS P main Old St fn .skip Q vs A a w:=qc (R:=fun e A a w=>Q e vs A a w) (yk h) fun _ _ _ _ q=>q
theorem je {id:Nat}{ops:Array Oper}(h:O_ P main Old St fn ops (lQ ops.size) Q vs A a w):wpS P main Old St fn (.region id ops false) Q vs A a w:=
 fun b k cs hb hk hc=>OW.ctl rfl (fun w=>stepG_region) (h b k cs hb hk hc)
theorem oP {ops:Array Oper}(h:Q .normal vs A a w):O_ P main Old St fn ops [] Q vs A a w:=fun b k cs hb hk hc=>OW.ctl rfl (fun w=>stepG_region_end) (hc _ _ _ _ _ h)
theorem jA {ops:Array Oper}{i:Nat}{rest:List Nat}{o:Oper}{v:Value}(ho:ops[i]? =some o)(hw:Region.wanted o (yielded ops a.tmps)=true)(hv:∀(W:World) (K:Result Next→Prop),K (.ok (.value v) W)→K ((execOp a.eval o).run P W))(he:∀W:World,(execOp a.eval o).events P W #[]= #[])(hn:O_ P main Old St fn ops rest Q vs A (a.put o.dst v) w):O_ P main Old St fn ops (i::rest) Q vs A a w:=by
 intro b k cs hb hk hc;refine OW.one rfl fun w1 h1=>⟨G (b.at (a.put o.dst v) (.inRegion ops rest::k)) cs,w1,#[],A,?_,yK.idle _ _ _,(hn b k cs hb hk hc).rely h1⟩
 rw[stepG_value ho hw hk (hv w1 (·= .ok (.value v) w1) rfl)];unfold listed;rw[he w1,seen_none]
end
section
variable {P:Program}{Old A:Blk}{c:Nat}{fn:FuncId}{Q:Exit→List Value→Blk→Act→World→Prop}{vs:List Value}{a:Act}{w:World}
theorem fp {ops:Array Oper}{i:Nat}{rest:List Nat}{o:Oper}{x y:Operand}{v:Value}(ho:ops[i]? =some o)(hw:Region.wanted o (yielded ops a.tmps)=true)(a0:o.op= .send x y)(hx:a.eval x= .chan (some c))(hy:a.eval y=v)
  (hn:∀w1,Rel Old A w w1→O_ P false Old (qC P Old c) fn ops rest Q vs A (a.put o.dst undef) w1):O_ P false Old (qC P Old c) fn ops (i::rest) Q (v::vs) A a w:=by
 intro b k cs hb hk hc;refine .stop fun w1 h1=> ?_
 refine⟨rfl,G (b.at a (.inRegion ops (i::rest)::k)) cs,.tuple #[],#[],?_,by simp,fun w2 h2=> ?_⟩
 ·rw[stepG_comm (cases:= #[scase c v (.tuple #[])]) (blocking:=true) (shape:= .send) (w' :=w1) ho hw hk (by simp[execOp,a0,hx,hy,scase])]
  have he:(execOp a.eval o).events P w1 #[]= #[]:=by
   unfold execOp;simp only[a0];rfl
  unfold listed;rw[he];simp[seen]
 ·have e:Conc.served (G (b.at a (.inRegion ops (i::rest)::k)) cs) undef=G (b.at (a.put o.dst undef) (.inRegion ops rest::k)) cs:=by
   rw[served_G];simp[ho]
  rw[e,Vl];exact hn w2 (h1.trans h2) b k cs hb hk hc
theorem FB {f:FuncId}{fn:Func}{args:Array Value}{body:Code}(hf:P.funcs[f]? =some fn)(a0:(fn.name== "runtime.NumGoroutine")=false)(hb:fn.body=some body)(hr:fn.results= #[])(a2:fn.norace=false)
  (h:wpS P false Old (qC P Old c) f body (fun e vs A a w=>(e= .normal∨e= .ret)∧vs=[]∧∃a1 ty bs,a.defers=[Xu a1 ty bs c]) vs A {tmps:=args++lO (fn.ntmps-args.size) undef,defers:=[]} w):Snd P Old c vs A (born P (dcall f args)) w:=by
 rw[Vl];refine OW.ctl rfl (fun w=>gn hf a0 hb) (h (baseD f) [] [Xw P] rfl (by simp[baseD]) fun e a3 A' a' w' q=> ?_);obtain⟨he,rfl,a1,ty,bs,hd⟩:=q;have key:∀todo,OW P false Old (qC P Old c []) A' (G {(baseD f).at a' todo with mode:= .returning} [Xw P]) w' :=by
  intro todo;refine .stop fun w1 h1=>⟨rfl,rfl,G {(baseD f).at ⟨a'.tmps,[]⟩ todo with mode:= .returning} [Xw P],#[⟨.obj c,false,true⟩],2,fun s r tm hc=> ?_,?_,oI (b:=baseD f) (fn:=fn) rfl hf hr⟩
  ·rw[vq hd hc (by simp[baseD,hf,a2])]
   rfl
  ·intro e he
   simp only[List.mem_toArray,List.mem_cons,List.not_mem_nil,or_false]at he;subst he;exact .inr (.inr ⟨c,rfl⟩)
 rcases he with rfl|rfl
 ·exact OW.ctl rfl (fun w=>stepG_end) (key [])
 ·exact key
end
theorem gI {P:Program}{main:Bool}{Old A:Blk}{St:List Value→Blk→Goroutine→World→Prop}{fn:FuncId}{Q:Exit→List Value→Blk→Act→World→Prop}{vs:List Value}{a:Act}{w:World}{ops:Array Oper}{i:Nat}{rest:List Nat}{o:Oper}{x:Operand}{a0:Array TypeId}{ch:Nat}(ho:ops[i]? =some o)(hw:Region.wanted o (yielded ops a.tmps)=true)
  (a1:o.op= .defer {callee:= .builtin .close,args:= #[x],argTypes:=a0})(hx:a.eval x= .chan (some ch))
  (hn:∀ty bs,O_ P main Old St fn ops rest Q vs A (Act.put ⟨a.tmps,Xu a0 ty bs ch::a.defers⟩ o.dst undef) w):O_ P main Old St fn ops (i::rest) Q vs A a w:=by
 intro b k cs hb hk hc;obtain⟨ty,bs,h⟩:=Vj (P:=P) (main:=main) (b:=b) (a:=a) (k:=k) (cs:=cs) (rest:=rest) ho hw hk a1 hx;exact OW.ctl rfl h (hn ty bs b k cs hb hk hc)
def KO (Old A:Blk)(w0 w:World):Prop:=∀b,Old b→¬A b∧b<w.heap.size∧w.heap[b]? =w0.heap[b]?
section
variable {P:Program}{main:Bool}{Old A A' :Blk}{w0 w w1 w' :World}{es:Array Event}
theorem KO.rely (h:KO Old A w0 w)(r:Rel Old A w w1):KO Old A w0 w1:=fun b hb=>⟨(h b hb).1,lE (h b hb).2.1 r.size,(r.own b (.inr hb)).trans (h b hb).2.2⟩
theorem KO.guar (h:KO Old A w0 w)(g:yK Old A A' w w' es):KO Old A' w0 w' :=fun b hb=>⟨fun e=>by
 rcases g.new b e with e|e
 ·exact(h b hb).1 e
 ·have:=(h b hb).2.1;omega,lE (h b hb).2.1 g.size,(g.rest b (h b hb).2.1 (h b hb).1).trans (h b hb).2.2⟩
theorem KO.back (h:KO Old A w0 w1)(r:Rel Old A w w1):KO Old A w0 w:=fun b hb=>by
 have e:=r.own b (.inr hb);refine⟨(h b hb).1,?_,e.symm.trans (h b hb).2.2⟩;rw[Array.getElem?_eq_getElem (h b hb).2.1]at e;exact(Array.getElem?_eq_some_iff.1 e.symm).1
theorem KO.cell (h:KO Old A w0 w){p:Addr}(hp:Old p.block):w.cell? p=w0.cell? p:=by
 simp only[World.cell?,(h _ hp).2.2]
theorem CM {Z:Blk→Goroutine→World→Prop}{g:Goroutine}(h:OW P main Old (fun A g w=>KO Old A w0 w→OW P main Old Z A g w) A g w)(hk:KO Old A w0 w):OW P main Old Z A g w:=by
 induction h using OW.ind with
 |stop h=>exact h _ (Rel.refl _ _ _) hk
 |step f v e B hs h1 _ ih=>exact .step f v e B hs h1 fun w1 hr=>ih w1 hr ((hk.rely hr).guar (h1 w1 hr).2)
theorem Ql {f:FuncId}{args:Array Value}{Post:Blk→Value→World→Prop}(h:yB P main Old f args A w Post)(hk:KO Old A w0 w):yB P main Old f args A w (fun A' v w' =>Post A' v w' ∧KO Old A' w0 w'):=by
 obtain⟨fn,c,hf,hn,hb,hw⟩:=h;refine⟨fn,c,hf,hn,hb,fun b k cs Z a1 a2 hc=>CM (hw b k cs _ a1 a2 fun e A' a' w' q=> ?_) hk⟩
 cases e with
 |normal=>exact .stop fun w1 r1 a0=>(hc .normal A' a' w' ⟨q.1,q.2.choose,q.2.choose_spec.1,q.2.choose_spec.2,a0.back r1⟩).rely r1
 |ret=>exact fun todo=> .stop fun w1 r1 a0=>(hc .ret A' a' w' ⟨q.1,q.2.choose,q.2.choose_spec.1,q.2.choose_spec.2,a0.back r1⟩ todo).rely r1
 |exit id=>exact q.elim
 |goto l=>exact q.elim
 |panic ch=>exact q.elim
 |outgrown=>exact q.elim
end
section
variable {P:Program}{Old:Blk}{c:Nat}{z:Value}{fn:FuncId}
theorem OV {ops:Array Oper}{i:Nat}{rest:List Nat}{o:Oper}{t:TypeId}{x:Operand}{b:Frame}{a:Act}{k:List Item}{cs:List Frame}{A:Blk}{w:World}(ho:ops[i]? =some o)(hw:Region.wanted o (yielded ops a.tmps)=true)(hk:b.kind≠ .early)(a0:o.op= .recv t x true)(hx:a.eval x= .chan (some c))
  (hz:∀W,(execOp a.eval o).run P W= .ok (.comm #[rcase c z] true (.recv true)) W)(he:∀W,(execOp a.eval o).events P W #[]= #[]):
  uK P Old c z A (G (b.at a (.inRegion ops (i::rest)::k)) cs) w:=by
 refine⟨rfl,#[],?_,by simp⟩;rw[stepG_comm ho hw hk (hz w)];unfold listed;rw[he w,seen_none];rfl
theorem FQ {LB a0:Code}{id:Nat}{ops:Array Oper}{o:Oper}{t:TypeId}{x:Operand}{b:Frame}{k:List Item}{cs:List Frame}{Fin:Blk→Goroutine→World→Prop}{all:List Value}(a6:LB= .seq (.region id ops false) a0)(a9:lQ ops.size=[0,1])(ho:ops[0]? =some o)(hb:b.fn=fn)(hk:b.kind≠ .early)
  (a8:o.op= .recv t x true)(Inv:List Value→Blk→Act→World→Prop)(hI:∀xs A a w w1,Inv xs A a w→Rel Old A w w1→Inv xs A a w1)
  (a7:∀xs A a w,Inv xs A a w→Region.wanted o (yielded ops a.tmps)=true∧a.eval x= .chan (some c)∧(∀W,(execOp a.eval o).run P W= .ok (.comm #[rcase c z] true (.recv true)) W)∧∀W,(execOp a.eval o).events P W #[]= #[])
  (round:∀xs v vs A a w,xs++v::vs=all→Inv xs A a w→Ym P true Old fn ops [1] (fun e A' a' w' =>e= .normal∧wpO P true Old fn a0 (fun e A' a' w' =>e= .normal∧Inv (xs++ [v]) A' a' w') A' a' w') A (a.put o.dst (.tuple #[v,.bool true])) w)
  (b1:∀A a w,Inv all A a w→Fin A (G (b.at (a.put o.dst (.tuple #[z,.bool false])) (.inRegion ops [1]:: .code a0:: .inLoop LB::k)) cs) w):
  ∀(vs xs:List Value) (A:Blk) (a:Act) (w:World),xs++vs=all→Inv xs A a w→Rcv P Old c z Fin vs A (G (b.at a (.code LB:: .inLoop LB::k)) cs) w:=by
 intro vs;induction vs with
 |nil=>
  intro xs A a w a3 hi;rw[xp];subst a6;refine OW.ctl rfl (fun _=>stepG_seq) (OW.ctl rfl (fun _=>stepG_region) (.stop fun w1 h1=> ?_));have a1:=hI _ _ _ _ _ hi h1;obtain⟨h2,h3,h4,h5⟩:=a7 _ _ _ _ a1;rw[a9];refine⟨OV ho h2 hk a8 h3 h4 h5,fun w2 a5=> ?_⟩;have e:Conc.served (core (G (b.at a (.inRegion ops [0,1]:: .code a0:: .inLoop (.seq (.region id ops false) a0)::k)) cs)) (.tuple #[z,.bool false])=G (b.at (a.put o.dst (.tuple #[z,.bool false])) (.inRegion ops [1]:: .code a0:: .inLoop (.seq (.region id ops false) a0)::k)) cs:=by
   rw[show core (G (b.at a (.inRegion ops [0,1]:: .code a0:: .inLoop (.seq (.region id ops false) a0)::k)) cs)=G (b.at a (.inRegion ops [0,1]:: .code a0:: .inLoop (.seq (.region id ops false) a0)::k)) cs from rfl,served_G];simp[ho]
  rw[e];rw[List.append_nil]at a3;exact b1 A a w2 (a3▸hI _ _ _ _ _ a1 a5)
 |cons v vs ih=>
  intro xs A a w a3 hi;rw[xp];have a4 :=a6;subst a4;refine OW.ctl rfl (fun _=>stepG_seq) (OW.ctl rfl (fun _=>stepG_region) (.stop fun w1 h1=> ?_));have a1:=hI _ _ _ _ _ hi h1;obtain⟨h2,h3,h4,h5⟩:=a7 _ _ _ _ a1;rw[a9];refine⟨OV ho h2 hk a8 h3 h4 h5,fun w2 a5=> ?_⟩;have e:Conc.served (core (G (b.at a (.inRegion ops [0,1]:: .code a0:: .inLoop (.seq (.region id ops false) a0)::k)) cs)) (.tuple #[v,.bool true])=G (b.at (a.put o.dst (.tuple #[v,.bool true])) (.inRegion ops [1]:: .code a0:: .inLoop (.seq (.region id ops false) a0)::k)) cs:=by
   rw[show core (G (b.at a (.inRegion ops [0,1]:: .code a0:: .inLoop (.seq (.region id ops false) a0)::k)) cs)=G (b.at a (.inRegion ops [0,1]:: .code a0:: .inLoop (.seq (.region id ops false) a0)::k)) cs from rfl,served_G];simp[ho]
  rw[e,xp];refine round xs v vs A a w2 a3 (hI _ _ _ _ _ a1 a5) b (.code a0:: .inLoop (.seq (.region id ops false) a0)::k) cs _ hb hk fun e A' a' w' q=> ?_
  obtain⟨rfl,q⟩:=q;refine q b (.inLoop (.seq (.region id ops false) a0)::k) cs _ hb hk fun e A2 a2 w2 q2=> ?_
  obtain⟨rfl,q2⟩:=q2;refine OW.ctl rfl (fun _=>stepG_inLoop) ?_;rw[←xp];exact ih (xs++ [v]) A2 a2 w2 (by simpa using a3) q2
end
section
variable {P:Program}{fn:FuncId}{Q:Exit→Act→World→Prop}{a:Act}{w:World}
theorem bT {ops:Array Oper}{i:Nat}{o:Oper}{b:Frame}{k:List Item}{cs:List Frame}{Z:Goroutine→World→Prop}{d:Deferred}{f:Fn}{cc:Array Value}{c:Nat}{z:Value}{vs:List Value}(ho:ops[i]? =some o)(hw:Region.wanted o (yielded ops a.tmps)=true)(hk:b.kind≠ .early)
  (hr:∀W,(execOp a.eval o).run P W= .ok (.spawn d) W)(he:∀W,(execOp a.eval o).events P W #[]= #[])(hd:d.target= .fn f cc)(hc:∃s r tm,w.heap[c]? =some (.chan 0 #[] false s r tm))
  (hR:∀T e,Rcv P (xX w c) c z (fun A g w' =>Rel (xX w c) Zt (re w T e) w' →ToE P Z g w') vs Zt (G (b.at (a.put o.dst undef) (.inRegion ops []::k)) cs) (re w T e))(hS:∀T e,Snd P (xX w c) c vs Zt (born P d) (re w T e)):ToE P Z (G (b.at a (.inRegion ops [i]::k)) cs) w:=by
 intro T e;refine To.trans (bS (Q:=fun g w=>ToE P Z g w) (w:=re w T e) (c:=c) rfl (fun d0=> ?_) hc (hR T e) (hS T e) fun g2 w2 h=> ?_) fun g w h=>h.here
 ·rw[stepG_spawn ho hw hk (hr _) hd]
  unfold listed;rw[he,seen_none]
 ·obtain⟨⟨A,h1⟩,h2⟩:=h
  exact h1 h2
theorem toE_run (hP:zH P){ops:Array Oper}{i:Nat}{rest:List Nat}{o:Oper}{b:Frame}{k:List Item}{cs:List Frame}{Z:Goroutine→World→Prop}(hO:OkK k cs)(ho:ops[i]? =some o)(hw:Region.wanted o (yielded ops a.tmps)=true)(M:Value→World→Prop)(hM:∀v w T d,M v w→M v (re w T d))
  (hr:∀T d,∃v w',(execOp a.eval o).run P (re w T d)= .ok (.value v) w' ∧M v w')(hn:∀v w',M v w' →ToE P Z (G (b.at (a.put o.dst v) (.inRegion ops rest::k)) cs) w'):ToE P Z (G (b.at a (.inRegion ops (i::rest)::k)) cs) w:=by
 have a0:∀v,(b.at a (.inRegion ops (i::rest)::k)).finish v=b.at (a.put o.dst v) (.inRegion ops rest::k):=by
  intro v;rw[lM,ho];rfl
 refine(ToE.lone (Q:=fun g w' =>∃v,M v w' ∧g=G (b.at (a.put o.dst v) (.inRegion ops rest::k)) cs) hP (fun g w T d ⟨v,q,s⟩=>⟨v,hM _ _ T d q,s⟩) (hO.cons (by trivial)).fit fun T d=> ?_).trans fun g w' ⟨⟨v,q,s⟩,_⟩=> ?_
 ·obtain⟨v,w',h1,h2⟩:=hr T d
  refine⟨1,_,w',?_,⟨v,h2,rfl⟩,rfl,rfl⟩;have a1:step P (lone (b.at a (.inRegion ops (i::rest)::k)) cs (re w T d))= .next (lone (b.at (a.put o.dst v) (.inRegion ops rest::k)) cs w'):=step_lone_go (by rw[stepG_op ho hw,←a0 v];simp[stepG.apply,h1]);simp only[runN];rw[show solo (G (b.at a (.inRegion ops (i::rest)::k)) cs) (re w T d)=lone (b.at a (.inRegion ops (i::rest)::k)) cs (re w T d)from rfl,a1];rfl
 ·subst s
  exact hn v w' q
theorem qe (hP:zH P){ops:Array Oper}{i:Nat}{rest:List Nat}{o:Oper}{v:Value}{b:Frame}{k:List Item}{cs:List Frame}{Z:Goroutine→World→Prop}(hO:OkK k cs)(ho:ops[i]? =some o)(hw:Region.wanted o (yielded ops a.tmps)=true)(hv:∀(W:World) (K:Result Next→Prop),K (.ok (.value v) W)→K ((execOp a.eval o).run P W))(hn:ToE P Z (G (b.at (a.put o.dst v) (.inRegion ops rest::k)) cs) w):ToE P Z (G (b.at a (.inRegion ops (i::rest)::k)) cs) w:=
 toE_run hP hO ho hw (fun u w' =>u=v∧∃T d,w' =re w T d) (fun u w' T d ⟨e,T',d',e'⟩=>⟨e,T,d,by rw[e'];rfl⟩) (fun T d=>⟨v,re w T d,hv _ (·= .ok (.value v) (re w T d)) rfl,rfl,T,d,rfl⟩) fun u w' ⟨e,T,d,e'⟩=>by subst e e';exact hn.rt T d
theorem FY (hP:zH P){ops:Array Oper}{i:Nat}{rest:List Nat}{o:Oper}(ho:ops[i]? =some o)(hw:Region.wanted o (yielded ops a.tmps)=true)(M:Value→World→Prop)(hM:∀v w T d,M v w→M v (re w T d))
  (hr:∀T d,∃v w',(execOp a.eval o).run P (re w T d)= .ok (.value v) w' ∧M v w')(hn:∀v w',M v w' →QV P fn ops rest Q (a.put o.dst v) w'):QV P fn ops (i::rest) Q a w:=
 fun b k cs Z hF hO hb hc=>toE_run hP hO ho hw M hM hr fun v w' q=>hn v w' q b k cs Z hF hO hb hc
theorem oO (hP:zH P){ops:Array Oper}{i:Nat}{rest:List Nat}{o:Oper}{v:Value}(ho:ops[i]? =some o)(hw:Region.wanted o (yielded ops a.tmps)=true)(hv:∀(W:World) (K:Result Next→Prop),K (.ok (.value v) W)→K ((execOp a.eval o).run P W))(hn:QV P fn ops rest Q (a.put o.dst v) w):QV P fn ops (i::rest) Q a w:=
 fun b k cs Z hF hO hb hc=>qe hP hO ho hw hv (hn b k cs Z hF hO hb hc)
end
def ReC (Q:Exit→Act→World→Prop):Prop:=∀e a w T d,Q e a w→Q e a (re w T d)
section
variable {P:Program}{fn:FuncId}{Q:Exit→Act→World→Prop}{c:Code}
theorem ReC.thenT (h:ReC Q):ReC (Exit.then (wpT P fn c Q) Q):=fun e a w T d hq=>by
 cases e with
 |normal=>exact bR hq T d
 |ret=>exact h .ret a w T d hq
 |exit id=>exact h (.exit id) a w T d hq
 |goto l=>exact h (.goto l) a w T d hq
 |panic ch=>exact h (.panic ch) a w T d hq
 |outgrown=>exact h .outgrown a w T d hq
theorem ReC.inBlock {id:Nat}(h:ReC Q):ReC (Exit.inBlock id Q):=fun e a w T d hq=>by
 cases e with
 |normal=>exact h .normal a w T d hq
 |ret=>exact h .ret a w T d hq
 |exit i=>
  simp only[Exit.inBlock]at hq⊢;split
  ·rename_i e;rw[if_pos e]at hq;exact h .normal a w T d hq
  ·rename_i e;rw[if_neg e]at hq;exact h (.exit i) a w T d hq
 |goto l=>exact h (.goto l) a w T d hq
 |panic ch=>exact h (.panic ch) a w T d hq
 |outgrown=>exact h .outgrown a w T d hq
theorem ReC.body {f:Func}{R:Value→World→Prop}(h:∀v w T d,R v w→R v (re w T d)):ReC (zZ P f R):=fun e a w T d hq=>by
 cases e with
 |normal=>obtain⟨h1,v,h2,h3⟩:=hq;exact⟨h1,v,h2,h v w T d h3⟩
 |ret=>obtain⟨h1,v,h2,h3⟩:=hq;exact⟨h1,v,h2,h v w T d h3⟩
 |exit id=>exact hq
 |goto l=>exact hq
 |panic ch=>exact hq
 |outgrown=>exact hq
theorem z7 (hP:zH P){x y:Code}(hQ:ReC Q){a:Act}{w:World}(h:∀T d,x.wp P (Exit.then (wpT P fn y Q) Q) a (re w T d)):wpT P fn (.seq x y) Q a w:=zw hP (UW hP hQ.thenT h)
end
def K0 (P:Program)(fn:Func)(R:Value→World→Prop):Exit→Act→World→Prop
 | .normal,a,w| .ret,a,w=>a.defers=[]∧∃v,(∀W,(results fn a.tmps).run P W= .ok v W∧Sem.events P (results fn a.tmps) W #[]= #[])∧R v w
 |_,_,_=>False
theorem ReC.bodyE {P:Program}{f:Func}{R:Value→World→Prop}(h:∀v w T d,R v w→R v (re w T d)):ReC (K0 P f R):=fun e a w T d hq=>by
 cases e with
 |normal=>obtain⟨h1,v,h2,h3⟩:=hq;exact⟨h1,v,h2,h v w T d h3⟩
 |ret=>obtain⟨h1,v,h2,h3⟩:=hq;exact⟨h1,v,h2,h v w T d h3⟩
 |exit id=>exact hq
 |goto l=>exact hq
 |panic ch=>exact hq
 |outgrown=>exact hq
def GQ (P:Program)(R:Value→World→Prop)(g:Goroutine)(w:World):Prop:=g.status= .running∧∃v,R v w∧∀W,stepG P true g W= .ended (.done v) W #[]
theorem oM {P:Program}(hP:zH P){f:FuncId}{fn:Func}{c:Code}{args:Array Value}{w:World}{R:Value→World→Prop}(hR:∀v w T d,R v w→R v (re w T d))(hf:P.funcs[f]? =some fn)(hb:fn.body=some c)(hi:P.inits.idxOf? f=none)
  (h:wpT P f c (K0 P fn R) {tmps:=args++lO (fn.ntmps-args.size) undef,defers:=[]} w):ToE P (GQ P R) (G (eW P f args .normal) []) w:=by
 have a2 :∀f∈([]:List Frame),zM f:=fun f hf=>by cases hf
 have a1:eW P f args .normal=({(default:Frame)with fn:=f,kind:= .normal}:Frame).at {tmps:=args++lO (fn.ntmps-args.size) undef,defers:=[]} [.code c]:=by
  simp[eW,Frame.at,hf,hb]
 rw[a1];have a0:∀(a' :Act) (w' :World) (todo:List Item),(a'.defers=[]∧∃v,(∀W,(results fn a'.tmps).run P W= .ok v W∧Sem.events P (results fn a'.tmps) W #[]= #[])∧R v w')→
   ToE P (GQ P R) (G {({(default:Frame)with fn:=f,kind:= .normal}:Frame).at a' todo with mode:= .returning} []) w' :=by
  rintro a' w' todo ⟨hd,v,hr,hp⟩;refine ToE.done fun T d=>⟨rfl,v,hR v w' T d hp,fun W=> ?_⟩
  simp[G,stepG,unwind,doReturn,Frame.at,hd,hf,(hr W).1,(hr W).2,hi];rfl
 refine h _ [] [] (GQ P R) rfl ⟨fun _ hx=>(by cases hx),a2⟩ (by simp) fun e a' w' q=> ?_
 cases e with
 |normal=>exact ToE.ctl (g' :=G {({(default:Frame)with fn:=f,kind:= .normal}:Frame).at a' []with mode:= .returning} []) hP (OkK.fit ⟨fun _ hx=>(by cases hx),a2⟩) ⟨rfl,rfl⟩ (fun w=>step_end) (a0 a' w' [] q)
 |ret=>exact fun todo _=>a0 a' w' todo q
 |exit id=>exact q.elim
 |goto l=>exact q.elim
 |panic ch=>exact q.elim
 |outgrown=>exact q.elim
theorem O8 {P:Program}{g:Goroutine}{w:World}{R:Value→World→Prop}(hR:∀v w T d,R v w→R v (re w T d))(h:ToE P (GQ P R) g w):
  ∃N last o w' t',runNT P (N+1) (solo g w) #[]=(.ended o w',t')∧runN P N (solo g w)= .next last∧step P last= .ended o w' ∧Good P R last o w' t' :=by
 obtain⟨N,gs,g1,w1,sl,t,q,a5,h0,⟨a7,v,hv,a6⟩,hL,B,a0⟩:=h.here #[g] none #[] (fun _=>0) rfl (leavers_one P g) ⟨0,past_nil⟩;have hG:Goes P true AtRel (fun _ _ es=>∀e∈es,EvL (fun _=>False) B e) (AtEnd P (fun _=>False) B R) 0 g1 w1:=by
  rintro w2 ⟨d,rfl⟩;exact⟨a7,v,#[],a6 _,fun e he=>by simp at he,hR v w1 w1.tape d hv⟩
 obtain⟨M,last,o,w2,t2,a1,a2,a3,a4⟩:=beside_ends (sl:=sl) (fun _ _ _ h=>h) h0 hL a0 hG;have hs:solo g w=crowd #[g] w none:=rfl;refine⟨N+M,last,o,w2,t2,?_,?_,a3,a4⟩
 ·rw[Nat.add_assoc,runNT_add,hs,a5]
  exact a1
 ·have h1:runN P N (crowd #[g] w none)= .next (crowd gs w1 sl):=by rw[←runNT_fst P N _ #[],a5]
  rw[runN_add,hs,h1];exact a2
