import Derived.Test.YtolgebdmffcemaaGreatDoorQ04
import Derived.Conc.Beside
import Derived.Conc.LoneCalls
set_option linter.all false
set_option maxHeartbeats 20000000
set_option maxRecDepth 1000000
open List renaming mem_cons→iC,mem_cons_of_mem→hU,mem_cons_self→eY,mem_singleton→iE,not_mem_nil→iI,getD_eq_getElem?_getD→iJ,mem_of_getElem?→iK,range_succ→iW
open Nat renaming le_refl→eP,eq_zero_or_pos→iN,le_trans→eQ,zero_add→iX,lt_succ_self→iY
open Array renaming getElem?_eq_some_iff→iL,mem_iff_getElem→iM,getElem?_setIfInBounds_ne→iO,getElem?_eq_getElem→iP,mem_map→iQ,getElem?_map→iR,ext→iT,getElem_modify→iU,getElem?_modify→iV
open Option renaming map_some→iS
namespace Go.Proofs.YtolgebdmffcemaaGreatDoor
open Go Go.Conc
section
variable {P:Program}
theorem zu.ite {dy:Option Dying}{c:Prop} [Decidable c] {x y:GStep}(h1:zu dy x)(h2:zu dy y):zu dy (if c then x else y):=by
 by_cases h:c
 ·rw[if_pos h];exact h1
 ·rw[if_neg h];exact h2
def g9:GStep→Prop
 | .go g _ _=>g.dying≠none∧okG g∧∀t,g.status≠ .sleeping t
 | .ended .. =>True
 |_=>False
theorem g9.ok {dy:Option Dying}{x:GStep}(h:g9 x)(es:Array Event):zu dy (GStep.after es x):=by
 cases x with
 |go g w a0 =>exact⟨h.2.1,(fun _=>h.1),(fun hd=>absurd hd h.1),h.2.2⟩
 |ended o w a0 =>exact trivial
 |_=>exact h.elim
theorem g9.ok' {dy:Option Dying}{x:GStep}(h:g9 x):zu dy x:=by
 cases x with
 |go g w a0 =>exact⟨h.2.1,(fun _=>h.1),(fun hd=>absurd hd h.1),h.2.2⟩
 |ended o w a0 =>exact trivial
 |_=>exact h.elim
theorem Jb (fr:Frame)(a0:zM fr)(l:List ByteArray)(m:String)(b:Bool)(w:World):g9 (dieOf fr l m b w):=by
 unfold dieOf;exact⟨(fun h=>by cases h),⟨a0,(fun _ h=>by cases h),(fun d h1 h2=>by cases h1;cases h2)⟩,(fun t h=>by cases h)⟩
theorem yO (fr:Frame)(a0:zM fr)(m:String)(w:World):g9 (endThrow fr m w):=by
 unfold endThrow;first
  |exact Jb _ a0 _ _ _ _
  |exact trivial
  |exact⟨(fun h=>by cases h),⟨a0,(fun _ h=>by cases h),(fun d h1 h2=>by cases h1;cases h2)⟩,(fun t h=>by cases h)⟩
theorem vg (p:Program)(fr:Frame)(a0:zM fr)(cs:List Frame)(dy:Option Dying)(m:String)(w:World):g9 (endFatal p fr cs dy m w):=by
 unfold endFatal;extract_lets chain raw shown
 clear_value shown
 cases shown.run p w with
 |ok x v=>exact Jb _ a0 _ _ _ _
 |halt h v=>cases h<;>exact trivial
theorem XY (p:Program)(fr:Frame)(a0:zM fr)(v:Value)(w:World):g9 (endPrinting p fr v w):=by
 unfold endPrinting;simp only;split
 ·exact yO _ a0 _ _
 ·exact trivial
theorem XA {dy:Option Dying}(fr:Frame)(a0:zM fr)(cs:List Frame)(a1:∀f∈cs,zM f)(hb:Rep dy fr cs)(s:Sem Next)(hs:ki P s)(w:World):zu dy (stepG.apply P true fr cs dy s w):=by
 have a5:∀f∈fr::cs,zM f:=fun f hf=>by
  rcases iC.1 hf with rfl|hf
  ·exact a0
  ·exact a1 f hf
 unfold stepG.apply;simp only[if_true];have hl:=kW hs.1 w #[];have a3:=hs.2 w #[];have hy:=yl P s w #[] ZX;generalize hx:s.runT P w #[]=x at hl a3 hy⊢;obtain⟨r,es⟩:=x;have a2:∀a4,evens #[] a4 →xd a4 →evens #[] (seen P fr.fn (if(fr.kind==CallKind.early)=true then #[]else a4)):=by
  intro a4 h1 h2;split
  ·exact Zs ZX xH
  ·exact Zs h2 h1
 cases r with
 |ok nx v=>
  have a6:=hl nx v rfl;refine zu.after (a2 _ (a3 trivial) hy) ?_
  cases nx with
  |value x=>exact .go (Zu a0 _) a1 (hb.fin _)
  |skip=>exact .go (Zu a0 _) a1 (hb.fin _)
  |enter f args=>exact .go (yn _ _ _) a5 hb
  |round l f tmps a b=>exact .go (Kd _ _ _ _ _ _) a5 hb
  |defer c=>exact .go (Zu (fr:={fr with defers:=c::fr.defers}) a0 _) a1 (Rep.fin (fr:={fr with defers:=c::fr.defers}) (hb.same rfl) _)
  |recover=>
   simp only;split
   ·rename_i v' a9 e
    refine .go (Zu a0 _) ?_ ?_
    ·split at e
     ·split at e
      ·exact yM e a1
      ·exact yf e a1
     ·exact yM e a1
    ·refine Rep.fin (fun d h1 h2=>Eq.trans ?_ (hb d h1 h2)) _
     split at e
     ·split at e
      ·exact yy e _
      ·exact y5 e _
     ·exact yy e _
   ·exact .go (Zu a0 _) a1 (hb.fin _)
  |spawn c=>
   simp only;repeat' split
   all_goals first|exact(yO _ a0 _ _).ok' |exact trivial
  |comm cases b sh=>exact⟨⟨a0,a1,hb⟩,rfl,rfl,xH⟩
  |coroswitch c e=>exact⟨⟨a0,a1,hb⟩,rfl,rfl,a6,xH⟩
  |row row args=>
   have hr:row= "runtime.print$piece" :=a6;subst hr;simp only;split
   ·rename_i a8 a7 k e
    refine .go (fun x hx=> ?_) a1 (hb.same rfl);rcases iC.1 hx with rfl|hx
    ·exact rfl
    ·exact a0 x (by rw[e];exact hU _ hx)
   ·exact .go (Ke _ _) a5 hb
  |_=>exact a6.elim
 |halt h v=>
  cases h with
  |panic x=>exact zu.after (a2 _ (a3 trivial) hy) (.go (Y4 a0 _) a1 (hb.rai _))
  |fatal m=>exact(vg _ _ a0 _ _ _ _).ok _
  |throw m=>exact(yO _ a0 _ _).ok _
  |blocked=>exact zu.after' ⟨a0,a1,hb⟩ (fun h=>h) (fun _ h=>by cases h)
  |waiting=>exact zu.after' ⟨a0,a1,hb⟩ (fun h=>h) (fun _ h=>by cases h)
  |goexit=>exact absurd (uu hs.1 w #[] _ _ (congrArg Prod.fst hx)) (by rintro(h|h)<;>first|exact h|cases h)
  |exit c=>exact trivial
  |unsupported u=>
   cases u with
   |initOrder g=>exact zu.after (a2 _ xH ZX) (F_ fr a0 cs a1 hb g v)
   |_=>exact trivial
  |stuck s=>exact trivial
theorem CQ {dy:Option Dying}(hP:zH P)(fr:Frame)(a1:zM fr)(cs:List Frame)(a0:∀f∈cs,zM f)(hb:Rep dy fr cs)(w:World):zu dy (stepG.oper P true fr cs dy w):=by
 unfold stepG.oper;split
 ·exact trivial
 ·split
  ·refine XA fr a1 cs a0 hb _ (z4.tame ?_) w
   exact z4.bind0 (ZZ _ _ _) fun _=>z4.bind0 (Y6 _ _) fun _=>trivial
  ·exact XA fr a1 cs a0 hb _ (K4 hP _ _) w
theorem KD {dy:Option Dying}(hP:zH P)(fr:Frame)(a0:zM fr)(cs:List Frame)(a1:∀f∈cs,zM f)(hb:Rep dy fr cs)(c:Deferred)(w:World):zu dy (callDeferred P fr cs dy c w):=by
 have a3:∀f∈fr::cs,zM f:=fun f hf=>by
  rcases iC.1 hf with rfl|hf
  ·exact a0
  ·exact a1 f hf
 unfold callDeferred;refine zu.ite trivial ?_
 ·have hs:=ZU hP c.target c.args
  have hl:=kW hs.1 w #[];have hh:=uu hs.1 w #[];have a2:=hs.2 w #[];have hy:=yl P (invoke c.target c.args) w #[] ZX;generalize(invoke c.target c.args).runT P w #[]=x at hl a2 hy hh⊢;obtain⟨r,es⟩:=x
  cases r with
  |ok nx v=>
   have a4:=hl nx v rfl;refine zu.after (Zs hy (a2 trivial)) ?_
   cases nx with
   |enter f args=>exact .go (yn _ _ _) a3 hb
   |round l f tmps a b=>exact .go (Kd _ _ _ _ _ _) a3 hb
   |row row args=>
    have hr:row= "runtime.print$piece" :=a4;subst hr;exact .go (Ke _ _) a3 hb
   |recover=>
    simp only;split
    ·rename_i v' a5 e
     exact .go a0 (yM e a1) (fun d h1 h2=>(yy e _).trans (hb d h1 h2))
    ·exact .go a0 a1 (hb.same rfl)
   |coroswitch c e=>
    have he:e=true:=a4;subst he;exact⟨⟨a0,a1,hb⟩,rfl,rfl,rfl,xH⟩
   |value x=>exact .go a0 a1 (hb.same rfl)
   |skip=>exact .go a0 a1 (hb.same rfl)
   |defer c=>exact .go a0 a1 (hb.same rfl)
   |spawn c=>exact .go a0 a1 (hb.same rfl)
   |comm a b c=>exact .go a0 a1 (hb.same rfl)
   |_=>exact a4.elim
  |halt h v=>
   cases h with
   |panic x=>exact zu.after (Zs hy (a2 trivial)) (.go (Y4 a0 _) a1 (hb.rai _))
   |fatal m=>exact(vg _ _ a0 _ _ _ _).ok _
   |throw m=>exact(yO _ a0 _ _).ok _
   |blocked=>exact zu.after' ⟨a0,a1,hb.same rfl⟩ (fun h=>h) (fun _ h=>by cases h)
   |waiting=>exact zu.after' ⟨a0,a1,hb.same rfl⟩ (fun h=>h) (fun _ h=>by cases h)
   |goexit=>exact absurd (hh _ _ rfl) (by rintro(h|h)<;>first|exact h|cases h)
   |exit c=>exact trivial
   |unsupported u=>exact trivial
   |stuck s=>exact trivial
theorem ft {dy:Option Dying}(hP:zH P)(main:Bool)(fr:Frame)(a1:zM fr)(cs:List Frame)(a0:∀f∈cs,zM f)(hb:Rep dy fr cs)(a3:∀d,dy=some d→d.calling=true)(w:World):zu dy (unwind P main fr cs dy w):=by
 unfold unwind;split
 ·rename_i block ds _ _
  have hy:=yl P (Instr.takeDeferred block) w #[] ZX;have he:=(Y5 (P:=P) block).evens w #[];generalize(Instr.takeDeferred block).runT P w #[]=x at hy he⊢;obtain⟨r,es⟩:=x
  cases r with
  |ok a v=>exact zu.after (Zs hy he) (.go a1 a0 (hb.same rfl))
  |halt h v=>exact trivial
 ·rename_i ds _ _
  exact KD hP {fr with defers:=ds} a1 cs a0 (hb.same rfl) _ w
 ·split
  ·exact trivial
  ·rename_i a2 _
   split
   ·exact trivial
   ·cases cs with
    |cons c rest=>exact .go (Y4 (a0 c (eY ..)) _) (fun f hf=>a0 f (hU _ hf)) (Rep.rai (fr:=c) (cs:=rest) hb _)
    |nil=>
     cases dy with
     |none=>
      simp only;refine zu.ite (.go a1 a0 (hb.same rfl)) ?_
      cases(reportChain a2 false).run P w with
      |ok t v=>exact⟨⟨a1,a0,(fun d h1 h2=>by cases h1;cases h2)⟩,(fun h=>absurd rfl h),(fun hd=>by cases hd),(fun t h=>by cases h)⟩
      |halt h v=>cases h<;>exact trivial
     |some d=>
      simp only;split
      ·exact(XY _ _ a1 _ _).ok'
      ·exact trivial
  ·split
   ·exact qX _ _ a1 _ a0 hb a3 _ _
   ·rename_i fn _
    have hy:=yl P (results fn fr.tmps) w #[] ZX;have he:=(Vt (P:=P) fn fr.tmps).evens w #[];generalize(results fn fr.tmps).runT P w #[]=x at hy he⊢;obtain⟨r,es⟩:=x
    cases r with
    |ok a v=>exact zu.after (Zs hy he) (qX _ _ a1 _ a0 hb a3 _ _)
    |halt h v=>cases h<;>first|exact trivial|exact zu.after (Zs hy he) (.go (Y4 a1 _) a0 (hb.rai _))|exact zu.after (Zs hy he) (.go a1 a0 (hb.same rfl))
theorem Vq {dy:Option Dying}(main:Bool)(fr:Frame)(a3:zM fr)(cs:List Frame)(a2:∀f∈cs,zM f)(hb:Rep dy fr cs)(a1:∀d,dy=some d→d.calling=true)(a0:Option Code)(c:Prop) [Decidable c] (w:World):
  zu dy (match fr.roundOf with
   |none=>if c then GStep.go {frame:={fr with mode:= .returning},callers:=cs,status:= .running,dying:=dy} w else .ended (.stuck "exit, goto: no such block or label" (fr.pos P)) w
   |some l=>GStep.after (seen P fr.fn ((Instr.endRound l a0).runT P w #[]).2) (match((Instr.endRound l a0).runT P w #[]).1 with
    | .ok v w=>doReturn P main fr cs dy v w
    | .halt _ w=> .ended (.stuck "range over a function: no such loop" (fr.pos P)) w)):=by
 cases fr.roundOf with
 |none=>exact zu.ite (.go a3 a2 (hb.same rfl)) trivial
 |some l=>
  simp only;have hy:=yl P (Instr.endRound l a0) w #[] ZX;have he:=(xk (P:=P) l a0).evens w #[];generalize(Instr.endRound l a0).runT P w #[]=x at hy he⊢;obtain⟨r,es⟩:=x
  cases r with
  |ok a v=>exact zu.after (Zs hy he) (qX _ _ a3 _ a2 hb a1 _ _)
  |halt h v=>exact trivial
theorem CR {dy:Option Dying}(hP:zH P)(main:Bool)(fr:Frame)(a1:zM fr)(cs:List Frame)(a0:∀f∈cs,zM f)(hb:Rep dy fr cs)(a2:∀d,dy=some d→d.calling=true)(w:World):zu dy (stepG.exec P main true fr cs dy w):=by
 have hk:∀{x:Item} {k:List Item},fr.todo=x::k→∀y∈k,Xq y:=fun e y hy=>a1 y (by rw[e];exact hU _ hy)
 have h1:∀{x:Item} {k:List Item} (y:Item),Xq y→fr.todo=x::k→zM {fr with todo:=y::k}:=fun y hy e z hz=>by
  rcases iC.1 hz with rfl|hz
  ·exact hy
  ·exact hk e z hz
 have h2:∀{x:Item} {k:List Item} (y z:Item),Xq y→Xq z→fr.todo=x::k→zM {fr with todo:=y::z::k}:=fun y z hy hz e u hu=>by
  rcases iC.1 hu with rfl|hu
  ·exact hy
  ·rcases iC.1 hu with rfl|hu
   ·exact hz
   ·exact hk e u hu
 unfold stepG.exec;simp only;split
 ·exact Vq _ _ a1 _ a0 hb a2 _ _ _
 ·exact Vq _ _ a1 _ a0 hb a2 _ _ _
 ·rename_i e;exact .go (hk e) a0 (hb.same rfl)
 ·rename_i e;exact .go (hk e) a0 (hb.same rfl)
 ·rename_i e;exact .go (hk e) a0 (hb.same rfl)
 ·rename_i e;exact .go (hk e) a0 (hb.same rfl)
 ·rename_i e;exact .go (h2 _ _ trivial trivial e) a0 (hb.same rfl)
 ·rename_i e
  split
  ·exact .go (h1 _ trivial e) a0 (hb.same rfl)
  ·exact trivial
 ·rename_i e;exact .go (h2 _ _ trivial trivial e) a0 (hb.same rfl)
 ·rename_i e;exact .go (h2 _ _ trivial trivial e) a0 (hb.same rfl)
 ·rename_i e;exact .go (h2 _ _ trivial trivial e) a0 (hb.same rfl)
 ·rename_i e;exact .go (h2 _ _ trivial trivial e) a0 (hb.same rfl)
 ·rename_i id k e
  cases hx:exitTo id k with
  |none=>exact Vq _ _ a1 _ a0 hb a2 _ _ _
  |some t=>exact .go (fun y hy=>hk e y (vQ hx y hy)) a0 (hb.same rfl)
 ·rename_i l k e
  cases hx:gotoIn l k with
  |none=>exact Vq _ _ a1 _ a0 hb a2 _ _ _
  |some t=>exact .go (fun y hy=>(vN hx y hy).elim (hk e y) id) a0 (hb.same rfl)
 ·rename_i f params assign body k e
  have hy:=yl P (Instr.enterLoop fr.fn fr.tmps params assign body fr.roundOf) w #[] ZX;have he:=(YV (P:=P) fr.fn fr.tmps params assign body fr.roundOf).evens w #[];generalize(Instr.enterLoop fr.fn fr.tmps params assign body fr.roundOf).runT P w #[]=x at hy he⊢;obtain⟨r,es⟩:=x
  cases r with
  |ok a v=>
   refine zu.after (Zs hy he) ?_;obtain⟨l,mk⟩:=a;exact XA {fr with todo:= .inRangeFunc l::k,defers:=mk++fr.defers} (h1 _ trivial e) cs a0 (hb.same rfl) _ (ki.bind (ZZ _ _ _) fun d=>ZU hP _ _) _
  |halt h v=>exact trivial
 ·exact trivial
 ·refine XA fr a1 cs a0 hb _ (z4.tame ?_) w
  refine z4.bind0 ?_ (fun _=> ?_)
  case refine_2=>exact trivial
  cases fr.roundOf with
  |none=>exact trivial
  |some l=>exact Yp l
 ·rename_i l k e
  have hy:=yl P (Instr.endLoop l) w #[] ZX;have he:=(xQ (P:=P) l).evens w #[];generalize(Instr.endLoop l).runT P w #[]=x at hy he⊢;obtain⟨r,es⟩:=x
  cases r with
  |ok a v=>
   refine zu.after (Zs hy he) (.go (fun y hy=> ?_) a0 (hb.same rfl));rcases List.mem_append.1 hy with hy|hy
   ·cases a with
    |none=>cases hy
    |some c=>rcases iE.1 hy with rfl;exact trivial
   ·exact hk e y hy
  |halt h v=>cases h<;>first|exact trivial|exact zu.after (Zs hy he) (.go (Y4 a1 _) a0 (hb.rai _))
 ·exact trivial
 ·exact XA fr a1 cs a0 hb _ (ZU hP _ _) w
 ·rename_i row args k e
  have:row= "runtime.print$piece" :=a1 (.extern row args) (by rw[e];exact eY ..);subst this;rw[jC];exact XA fr a1 cs a0 hb _ ⟨vP _,uF _⟩ w
 ·rename_i id ops a3 k e
  refine zu.ite (.go (h1 _ trivial e) a0 (hb.same rfl)) ?_
  cases(choose (.order fr.fn id)).run P w with
  |ok t v=>exact .go (h1 _ trivial e) a0 (hb.same rfl)
  |halt h v=>exact trivial
 ·rename_i e;exact .go (hk e) a0 (hb.same rfl)
 ·exact zu.ite (CQ hP fr a1 cs a0 hb w) (.go (Zu a1 _) a0 (hb.fin _))
theorem gJ (fr:Frame)(a1:zM fr)(d:Dying)(hd:d.calling=false)(f:Fatal)(w:World):zu (some d) (writeOn P fr d f w):=by
 unfold writeOn;extract_lets on
 split
 ·exact trivial
 ·have ho:∀st f w es,(∀t,st≠GoStatus.sleeping t)→zu (some d) (on st f w es):=fun st f w es a2=>⟨⟨a1,(fun _ h=>by cases h),(fun d' h1 h2=>by cases h1;rw[show({d with fatal:=some f}:Dying).calling=d.calling from rfl,hd]at h2;cases h2)⟩,(fun _ h=>by cases h),(fun h=>by cases h),a2⟩
  rename_i a0 rest _;have H:∀x:Result Unit×Array Event,zu (some d) (match x with
   |(.ok _ w,es)=>on .running {f with pieces:=rest,begun:=true} w es
   |(.halt .blocked w,_)=>on .blocked f w #[]
   |(.halt (.unsupported u) w,_)=> .ended (.unsupported u "") w
   |(.halt _ w,_)=> .ended (.stuck "the report of a fatal error" "") w):=by
   rintro⟨r,es⟩
   cases r with
   |ok a v=>exact ho _ _ _ _ (fun t h=>by cases h)
   |halt h v=>cases h<;>first|exact ho _ _ _ _ (fun t h=>by cases h)|exact trivial
  exact H _
theorem Ba (hP:zH P)(fr:Frame)(a1:zM fr)(d:Dying)(hd:d.calling=false)(w:World):zu (some d) (die P fr d w):=by
 have ho:∀(st:GoStatus) (d' :Dying) (w:World) (es:Array Event),d'.calling=false→(∀t,st≠GoStatus.sleeping t)→zu (some d) (.go {frame:=fr,callers:=[],status:=st,dying:=some d' } w es):=fun st d' w es hc a3=>⟨⟨a1,(fun _ h=>by cases h),(fun a2 h1 h2=>by cases h1;rw[hc]at h2;cases h2)⟩,(fun _ h=>by cases h),(fun h=>by cases h),a3⟩
 unfold die;split
 ·exact gJ fr a1 d hd _ w
 ·split
  ·split
   ·exact ho _ _ _ _ hd (fun t h=>by cases h)
   ·unfold endWith
    simp only;repeat' (first|exact trivial|split)
  ·rename_i v mark rest _
   simp only;split
   ·exact ho _ _ _ _ hd (fun t h=>by cases h)
   ·rename_i s _
    cases(withAddress s).run P w with
    |ok s w=>exact ho _ _ _ _ hd (fun t h=>by cases h)
    |halt h w=>exact trivial
   ·rename_i t a0 name _
    have hs:=ZU hP (.fn (.method name) #[]) #[.iface t a0];generalize(invoke (.fn (.method name) #[]) #[.iface t a0]).runT P w #[]=x;obtain⟨r,es⟩:=x
    cases r with
    |ok n v=>
     cases n with
     |enter f args=>exact⟨⟨yn _ _ _,(fun _ h=>by cases h),fun a2 h1 h2=>rfl⟩,(fun _ h=>by cases h),(fun h=>by cases h),(fun t h=>by cases h)⟩
     |value x=>cases x<;>first|exact trivial|exact⟨⟨a1,(fun _ h=>by cases h),(fun a2 h1 h2=>by cases h1;exact absurd (hd.symm.trans h2) (by decide))⟩,(fun _ h=>by cases h),(fun h=>by cases h),(fun t h=>by cases h)⟩
     |_=>exact trivial
    |halt h v=>cases h<;>first|exact trivial|exact(XY _ _ a1 _ _).ok _
   ·exact trivial
theorem Fy (hP:zH P)(main:Bool)(g:Goroutine)(hg:okG g)(w:World):zu g.dying (stepG P main g w):=by
 obtain⟨fr,cs,st,dy,of⟩:=g;obtain⟨a0,a1,hb⟩:=hg;simp only at a0 a1 hb⊢;unfold stepG;simp only;split
 ·rename_i d hd
  exact Ba hP fr a0 _ rfl w
 ·rename_i h1 h2
  exact CR hP _ _ a0 _ a1 hb (fun d e=>by
   subst e;obtain⟨a,b,c⟩:=d
   cases c<;>first|rfl|exact(h1 _ _ _ _ _ _ rfl).elim) _
 ·rename_i h1 h2
  exact ft hP _ _ a0 _ a1 hb (fun d e=>by
   subst e;obtain⟨a,b,c⟩:=d
   cases c<;>first|rfl|exact(h1 _ _ _ _ _ _ rfl).elim) _
end
def Qn (gs:Array Goroutine):Prop:=∀h∈gs,h.status≠ .blocked
theorem y9 {gs:Array Goroutine}(h:Qn gs)(r:Nat)(a0:Bool):partners gs r a0=[]:=by
 unfold partners;rw[List.flatMap_eq_nil_iff];rintro⟨g,i⟩ hx;have hg:g∈gs:=by
  have h1:=Array.mem_toList_iff.1 hx;have h2:=Array.mem_zipIdx' h1;exact h2.2▸Array.getElem_mem _
 have:=h g hg;simp only;split
 ·rename_i h1 h2;exact absurd h1 this
 ·rfl
def xC:Way→Prop
 | .partner _ _=>False
 |_=>True
theorem o8 {gs gs' :Array Goroutine}(h:Qn gs)(h' :Qn gs')(w:World):ways w gs=ways w gs' :=by
 funext c
 unfold ways;simp only[y9 h,y9 h']
theorem jj {gs:Array Goroutine}(h:Qn gs)(w:World)(c:CommCase):∀x∈ways w gs c,xC x:=by
 unfold ways;simp only[y9 h];intro x hx;repeat' (first
  |(simp only[iE,iI]at hx;subst hx;exact trivial)
  |(simp only[iI]at hx;done)
  |(cases hx;done)
  |split at hx)
theorem j_ {l:List Way}(h:∀x∈l,xC x)(b:Nat):xC (l.getD b .closed):=by
 rw[iJ]
 cases hb:l[b]? with
 |none=>exact trivial
 |some x=>exact h x (iK hb)
theorem Ci {gs:Array Goroutine}(w:World)(T:Nat→Question→Nat)(d:Nat):ways (re w T d) gs=ways w gs:=rfl
theorem KV (w:World)(T:Nat→Question→Nat)(d:Nat):(re w T d).heap=w.heap:=rfl
theorem qM {rest:Rest}(h:rest.timers= #[])(cases:Array CommCase)(w:World):waitingAt rest cases w=some w:=by
 unfold waitingAt;have:timerAhead rest w.os.mono cases=false:=by
  unfold timerAhead;rw[h,Array.any_eq_false];intro j hj;split<;>simp
 rw[this];rfl
theorem B6 {α:Type}{F:α→Prop}{P:Program}{s:Sem α}(hs:Zq P F s){w w' :World}{T:Nat→Question→Nat}{d n:Nat}{a:α}(h:s.run P w= .ok a w')(hn:w'.drawn≤n)(hT:ZB w T d (n-w.drawn)):s.run P (re w T d)= .ok a (re w' T (d+(w'.drawn-w.drawn)))∧w.drawn≤w'.drawn:=by
 have h1:(s.runT P w #[]).1= .ok a w' :=by rw[Sem.runT_fst];exact h
 have h2:=qR hs hT (r:= .ok a w') (es:=(s.runT P w #[]).2) (by rw[←h1]);obtain⟨h3,h4,h5⟩:=h2;have h6:=congrArg Prod.fst (h5 trivial hn);rw[Sem.runT_fst]at h6;exact⟨h6,h3⟩
section
variable {p:Program}{gs gs' :Array Goroutine}{rest rest' :Rest}{i:Nat}{g:Goroutine}{cases:Array CommCase}{b:Bool}{sh:CommShape}{w:World}
theorem Qi (h:Qn gs)(h' :Qn gs')(ht:rest.timers= #[])(a9 :rest'.timers= #[]){m:Machine}{ops:Array MemOp}(hc:communicate p rest gs i g cases b sh w=(.next m,ops)){T:Nat→Question→Nat}{d n:Nat}(hn:m.world.drawn≤n)(hT:ZB w T d (n-w.drawn))(a8:g.status= .running):
  ∃g' w',m={world:=w',gs:=gs.setIfInBounds i g',rest:=rest}∧communicate p rest' gs' i g cases b sh (re w T d)=(.next {world:=re w' T (d+(w'.drawn-w.drawn)),gs:=gs'.setIfInBounds i g',rest:=rest' },ops)∧
   g'.dying=g.dying∧(g'.status= .running∨g'.status= .blocked)∧g'.callers=g.callers∧(g'.frame=g.frame∨(∃v,g'.frame=g.frame.finish v)∨∃c,g'.frame=g.frame.raise c)∧(∀op∈ops,op.g=i∧op.act.touch? =none∧∀x,op.act≠ .mark x)∧w.drawn≤w'.drawn∧w'.tape=w.tape:=by
 have hw:ways (re w T d) gs' =ways w gs:=(Ci w T d).trans (o8 h' h w);have a5:=jj h w;unfold communicate at hc⊢;rw[hw];simp only[KV]at hc⊢;generalize ways w gs=W at hc a5⊢;split at hc
 ·cases hc
 ·rename_i h1
  rw[if_neg h1];split at hc
  ·rename_i h2
   rw[if_pos h2];split at hc
   ·rename_i h3
    rw[if_pos h3];rw[qM ht]at hc;rw[qM a9];injection hc with a0 a1
    injection a0 with a0
    subst a0 a1;exact⟨_,w,rfl,by simp,rfl,.inr rfl,rfl,.inl rfl,by simp,eP _,rfl⟩
   ·rename_i h3
    rw[if_neg h3];injection hc with a0 a1
    injection a0 with a0
    subst a0 a1;exact⟨_,w,rfl,by simp,rfl,.inl rfl,rfl,.inr (.inl ⟨_,rfl⟩),by simp[MemAct.touch?],eP _,rfl⟩
  ·rename_i h2
   rw[if_neg h2];generalize hr:List.filter (fun(x:Nat×CommCase×List Way)=> !x.2.snd.isEmpty) (List.map (fun(x:CommCase×Nat)=>(x.snd,x.fst,W x.fst)) cases.zipIdx.toList)=ready at hc⊢;have a7:∀x∈ready,∀y∈x.2.2,xC y:=by
    intro x hx;rw[←hr]at hx;obtain⟨c,_,rfl⟩:=List.mem_map.1 (List.mem_filter.1 hx).1;exact a5 c.1
   clear hr h2 h1;generalize hs:(do
     let a←choose (.select ready.length)
     let b←choose (.extern "which waiting goroutine is the partner" (ready.getD a (0,default,[])).2.snd.length)
     pure ((ready.getD a (0,default,[])).fst,(ready.getD a (0,default,[])).2.fst,(ready.getD a (0,default,[])).2.snd.getD b .closed):Sem (Nat×CommCase×Way))=s at hc⊢
   have hm:z4 p (fun x:Nat×CommCase×Way=>xC x.2.2) s:=by
    rw[←hs];refine z4.bind0 (Zi _) (fun a=>z4.bind0 (Zi _) (fun b=> ?_));refine j_ (fun x hx=> ?_) b;rw[iJ]at hx
    cases ha:ready[a]? with
    |none=>rw[ha]at hx;cases hx
    |some y=>rw[ha]at hx;exact a7 y (iK ha) x hx
   clear hs;split at hc
   ·cases hc
   ·rename_i k c a4 v hp
    have a6:xC a4:=by
     have h1:(s.runT p w #[]).1= .ok (k,c,a4) v:=by rw[Sem.runT_fst];exact hp
     exact kW hm.fair w #[] _ _ h1
    have hv:v.drawn≤n→s.run p (re w T d)= .ok (k,c,a4) (re v T (d+(v.drawn-w.drawn))):=fun hv=>(B6 hm.fair hp hv hT).1
    have hk:v.tape=w.tape∧w.drawn≤v.drawn:=by
     have h1:=qg p s w #[];rw[Sem.runT_fst,hp]at h1;exact h1
    simp only[y9 h]at hc;generalize a3:(match c.chan with| .chan (some r)=>r|_=>0)=r at hc;split at hc
    ·
     have e:∀u:World,(runtimePanic (.plain "send on closed channel"):Sem Unit).run p u= .halt (.panic (.iface p.rt.plainError (strVal "send on closed channel"))) u:=fun u=>rfl
     rw[e]at hc;injection hc with a0 a1
     injection a0 with a0
     subst a0 a1;refine⟨_,v,rfl,?_,rfl,.inl a8,rfl,.inr (.inr ⟨_,rfl⟩),by simp,hk.2,hk.1⟩;rw[hv hn];simp only[e]
    ·injection hc with a0 a1
     injection a0 with a0
     subst a0 a1;refine⟨_,v,rfl,?_,rfl,.inl rfl,rfl,.inr (.inl ⟨_,rfl⟩),by simp[MemAct.touch?],hk.2,hk.1⟩;subst a3;rw[hv hn]
    ·rename_i hh a2
     injection hc with a0 a1
     injection a0 with a0
     subst a0 a1 a3;refine⟨_,{v with heap:=_},rfl,?_,rfl,.inl rfl,rfl,.inr (.inl ⟨_,rfl⟩),by simp[MemAct.touch?],hk.2,hk.1⟩;rw[hv hn];simp only[KV,hh,a2];rfl
    ·rename_i hh a2
     injection hc with a0 a1
     injection a0 with a0
     subst a0 a1 a3;refine⟨_,{v with heap:=_},rfl,?_,rfl,.inl rfl,rfl,.inr (.inl ⟨_,rfl⟩),by simp[MemAct.touch?],hk.2,hk.1⟩;rw[hv hn];simp only[KV,hh,a2,y9 h'];rfl
    ·exact a6.elim
    ·exact a6.elim
    ·cases hc
end
structure YM (P:Program)(g g' :Goroutine)(w w' :World)(ops:Array MemOp):Prop where
 run:g.status= .running
 tape:w'.tape=w.tape
 drawn:w.drawn≤w'.drawn
 solo:∀(T:Nat→Question→Nat) (d n:Nat),w'.drawn≤n→ZB w T d (n-w.drawn)→step P (solo g (re w T d))= .next (solo g' (re w' T (d+(w'.drawn-w.drawn))))
 crowd:∀(gs:Array Goroutine) (sl:Option (Nat×Nat)),gs[0]? =some g→(∀(i:Nat) h,0<i→gs[i]? =some h→h.status= .running∨h.status= .finished)→
  ∃gs',runT P (crowd gs w sl) 0=(.next (Go.Conc.crowd gs' w' sl),ops)∧gs'.size=gs.size∧gs'[0]? =some g' ∧∀(i:Nat),0<i→gs'[i]? =gs[i]?
 own:∀op∈ops,op.g=0
 deaf:∀t,Deaf (t++ops) 0=Deaf t 0
section
variable {P:Program}{g:Goroutine}{w:World}
theorem ZD {u:Array MemOp}(h:∀op∈u,∀x,op.act≠ .mark x)(t:Trace)(i:Nat):Deaf (t++u) i=Deaf t i:=by
 obtain⟨l⟩:=u;rw[Deaf_append];have h' :∀op∈l,∀x,op.act≠ .mark x:=fun op ho=>h op (by simpa using ho)
 clear h;generalize Deaf t i=d;induction l generalizing d with
 |nil=>rfl
 |cons y l ih=>
  rw[List.foldl_cons];have e:deafStep i d y=d:=by
   have:=h' y (eY ..);unfold deafStep
   cases ha:y.act with
   |mark x=>exact absurd ha (this x)
   |_=>rfl
  rw[e];exact ih (fun op ho=>h' op (hU _ ho)) _
theorem qf {gs:Array Goroutine}{g:Goroutine}(h:gs[0]? =some g)(v:Goroutine):gs.swapAt! 0 v=(g,gs.setIfInBounds 0 v):=by
 obtain⟨a0,rfl⟩:=iL.1 h;simp[Array.swapAt!,Array.swapAt,a0,Array.setIfInBounds]
def Xc (gs:Array Goroutine):Array Goroutine:=gs.setIfInBounds 0 {(default:Goroutine)with status:= .finished}
def qT (sl:Option (Nat×Nat)):Rest:={timers:= #[],alone:=none,slice:=sl}
theorem x5 {gs:Array Goroutine}{sl:Option (Nat×Nat)}(h:gs[0]? =some g){g' :Goroutine}{c:Array CommCase}{b:Bool}{sh:CommShape}{w' :World}{es:Array Event}(hs:stepG P true g w= .comm g' c b sh w' es):
  runT P (crowd gs w sl) 0=((communicate P (qT sl) (Xc gs) 0 g' c b sh w').1,MemOp.ofEvents 0 g.frame.fn g.frame.place es++(communicate P (qT sl) (Xc gs) 0 g' c b sh w').2):=by
 unfold runT crowd;simp only[qf h,beq_self_eq_true,hs];rfl
def Vi (gs:Array Goroutine)(sl:Option (Nat×Nat))(g' :Goroutine)(c:Nat)(w' :World):Stepped:=
 match w'.heap[c]? with
 |some (.coro (some h))=> .next {world:={w' with heap:=w'.heap.setIfInBounds c (.coro none)},gs:=((Xc gs).setIfInBounds 0 {g' with status:= .finished}).modify h (fun o=>{o with status:= .running}),rest:=qT sl}
 |some (.coro none)=>
  match endThrow g'.frame "coroswitch on exited coro" w' with
  | .go g w _=> .next {world:=w,gs:=(Xc gs).setIfInBounds 0 g,rest:=qT sl}
  |_=> .ended (.stuck "" "") w'
 |_=> .ended (.stuck "coroswitch: no coroutine" "") w'
theorem x4 {gs:Array Goroutine}{sl:Option (Nat×Nat)}(h:gs[0]? =some g){g' :Goroutine}{c:Nat}{w' :World}{es:Array Event}(hs:stepG P true g w= .coroswitch g' c true w' es):
  runT P (crowd gs w sl) 0=(Vi gs sl g' c w',MemOp.ofEvents 0 g.frame.fn g.frame.place es):=by
 unfold runT crowd;simp only[qf h,beq_self_eq_true,hs];rfl
theorem Ko {gs:Array Goroutine}(h:∀(i:Nat) x,0<i→gs[i]? =some x→x.status= .running∨x.status= .finished):Qn (Xc gs):=by
 intro x hx hb;obtain⟨i,hi,rfl⟩:=iM.1 hx;have a1 :i<gs.size:=by simpa[Xc]using hi
 rcases iN i with rfl|a0
 ·simp[Xc]at hb
 ·have h1:(Xc gs)[i]? =gs[i]? :=by
   unfold Xc;rw[iO (by omega)]
  rw[iP hi]at h1;rcases h i _ a0 h1.symm with h2|h2<;>rw[h2]at hb<;>cases hb
theorem YX:Qn (Xc #[g]):=Ko (gs:= #[g]) (fun i x hi hx=>by
 have:i=0:=by
  have:=(iL.1 hx).1;simp at this;exact this
 omega)
theorem cd {g g' :Goroutine}(hg:okG g)(h1:g'.dying=g.dying)(h2:g'.callers=g.callers)(h3:g'.frame=g.frame∨(∃v,g'.frame=g.frame.finish v)∨∃c,g'.frame=g.frame.raise c):okG g' :=by
 obtain⟨a,b,c⟩:=hg;unfold okG;rw[h1,h2];rcases h3 with h3|⟨v,h3⟩|⟨v,h3⟩<;>rw[h3]
 ·exact⟨a,b,c⟩
 ·exact⟨Zu a v,b,c.fin v⟩
 ·exact⟨Y4 a v,b,c.rai v⟩
theorem OU {gs:Array Goroutine}(h:0<gs.size)(g' :Goroutine):((Xc gs).setIfInBounds 0 g').size=gs.size∧((Xc gs).setIfInBounds 0 g')[0]? =some g' ∧∀(i:Nat),0<i→((Xc gs).setIfInBounds 0 g')[i]? =gs[i]? :=by
 refine⟨by simp[Xc],by simp[Xc,h],fun i hi=> ?_⟩;unfold Xc;rw[iO (by omega),iO (by omega)]
theorem YE (g g' :Goroutine):(Xc #[g]).setIfInBounds 0 g' = #[g']:=by simp[Xc]
theorem uR (hr:g.status= .running):step P (solo g w)=(runT P (crowd #[g] w none) 0).1:=by
 rw[step,stepT_solo hr];rfl
theorem vR {es:Array Event}(h:evens #[] es)(fn:FuncId)(pos:String)(t:Trace):Deaf (t++MemOp.ofEvents 0 fn pos es) 0=Deaf t 0:=by
 rw[Deaf_own];exact h _
theorem xK (fn:FuncId)(pos:String)(es:Array Event):∀op∈MemOp.ofEvents 0 fn pos es,op.g=0:=fun op a0=>by
 rw[ofEvents_eq]at a0;obtain⟨e,_,rfl⟩:=iQ.1 a0;rfl
theorem JS (hP:zH P)(hg:okG g)(hr:g.status= .running){m:Machine}(h:step P (solo g w)= .next m):
  2≤m.gs.size∨∃g' w',m=solo g' w' ∧okG g' ∧(g.dying≠none→g'.dying≠none)∧(∀t,g'.status≠ .sleeping t)∧(g.dying=none→g'.status= .running→g'.dying=none→∃ops,YM P g g' w w' ops):=by
 have a0:=Fy hP true g hg w;have a4:=Fx (yV w) P true g;have h1:∀u:World,step P (solo g u)=(runT P (crowd #[g] u none) 0).1:=fun u=>uR hr
 have hz:(#[g]:Array Goroutine)[0]? =some g:=rfl
 cases hs:stepG P true g w with
 |go g' w' es=>
  rw[hs]at a0 a4;have d5:step P (solo g w)= .next (solo g' w'):=step_solo_go hr hs;rw[d5]at h;injection h with h
  subst h;refine .inr ⟨g',w',rfl,a0.1,a0.2.1,a0.2.2.2,fun hd b1 a8 =>⟨MemOp.ofEvents 0 g.frame.fn g.frame.place es,?_⟩⟩;refine⟨hr,a4.1,a4.2.1,fun T d n hn hT=> ?_,fun gs sl h0 hl=> ?_,xK _ _ _,vR (a0.2.2.1 a8 b1) _ _⟩
  ·have hb:=jq hP hT true g hd hg.1
   rw[hs]at hb;exact step_solo_go hr (hb ⟨b1,a8⟩ hn)
  ·refine⟨_,runT_crowd_go (P:=P) (sl:=sl) (i:=0) h0 (show stepG P (0==0) g w=_ from hs),by simp,?_,fun i hi=> ?_⟩
   ·have:0<gs.size:=(iL.1 h0).1
    simp[this]
   ·rw[iO (by omega),iR]
    cases hx:gs[i]? with
    |none=>rfl
    |some x=>
     rw[iS];congr 1
     unfold woken;split
     ·exact again_running _ (hl i x hi hx)
     ·rfl
 |comm g1 c b sh w1 es=>
  rw[hs]at a0 a4;obtain⟨k1,k2,k3,k4⟩:=a0;have e:=x5 (P:=P) (sl:=none) hz hs;rw[h1 w,e]at h;simp only at h;generalize b5:communicate P (qT none) (Xc #[g]) 0 g1 c b sh w1=x at h e;obtain⟨st,c6⟩:=x;simp only at h;subst h;obtain⟨g',w',hm,_,c7,b9,b6,b7,a7,c8,c9⟩:=Qi (gs' :=Xc #[g]) (rest' :=qT none) YX YX rfl rfl b5 (T:=w1.tape) (d:=w1.drawn) (n:=m.world.drawn) (eP _) (fun _ _ _=>rfl) k3;rw[YE]at hm;have d4:m.world=w' :=by rw[hm]
  have b3:w1.tape=w.tape:=a4.1;have b2:w.drawn≤w1.drawn:=a4.2.1;have d3:∀t,g'.status≠ .sleeping t:=fun t ht=>by rcases b9 with h|h<;>rw[h]at ht<;>cases ht
  refine .inr ⟨g',w',hm,cd k1 c7 b6 b7,(fun hd=>by rw[c7,k2];exact hd),d3,fun hd b1 a8 =>⟨MemOp.ofEvents 0 g.frame.fn g.frame.place es++c6,?_⟩⟩;refine⟨hr,c9.trans b3,eQ b2 c8,fun T d n hn hT=> ?_,fun gs sl h0 hl=> ?_,fun op b8=> ?_,fun t=> ?_⟩
  ·have hb:=jq hP hT true g hd hg.1
   rw[hs]at hb;have a5:=hb trivial (eQ c8 hn);simp only[uW,ZN]at a5;obtain⟨g2,w2,a6,b4,_⟩:=Qi (gs' :=Xc #[g]) (rest' :=qT none) YX YX rfl rfl b5 (T:=T) (d:=d+(w1.drawn-w.drawn)) (n:=n) (by rw[d4];exact hn) (hT.later b3 b2) k3;rw[hm,YE]at a6;injection a6 with e1 e2
   have e3:g2=g' :=by
    have:=congrArg (fun a:Array Goroutine=>a[0]?) e2;simpa using this.symm
   subst e1 e3;rw[h1,x5 (P:=P) (sl:=none) hz a5,b4,YE];rw[show d+(w1.drawn-w.drawn)+(w'.drawn-w1.drawn)=d+(w'.drawn-w.drawn)by omega];rfl
  ·obtain⟨g2,w2,a6,b4,_⟩:=Qi (gs' :=Xc gs) (rest' :=qT sl) YX (Ko hl) rfl rfl b5 (T:=w1.tape) (d:=w1.drawn) (n:=m.world.drawn) (eP _) (fun _ _ _=>rfl) k3
   rw[hm,YE]at a6;injection a6 with e1 e2
   have e3:g2=g' :=by
    have:=congrArg (fun a:Array Goroutine=>a[0]?) e2;simpa using this.symm
   subst e1 e3;obtain⟨a1,a2,a3⟩:=OU (iL.1 h0).1 g2;refine⟨_,?_,a1,a2,a3⟩;rw[x5 (P:=P) (sl:=sl) h0 hs,show w1=re w1 w1.tape w1.drawn from rfl,b4];have:re w' w1.tape (w1.drawn+(w'.drawn-w1.drawn))=w' :=by
    rw[←c9,show w1.drawn+(w'.drawn-w1.drawn)=w'.drawn by omega];rfl
   rw[this];rfl
  ·rcases Array.mem_append.1 b8 with h|h
   ·exact xK _ _ _ op h
   ·exact(a7 op h).1
  ·rw[←Array.append_assoc,ZD (fun op b8=>(a7 op b8).2.2)]
   exact vR k4 _ _ t
 |coroswitch g1 c ex w1 es=>
  rw[hs]at a0 a4;obtain⟨k1,k2,k3,k5,k4⟩:=a0;subst k5;have b3:w1.tape=w.tape:=a4.1;have b2:w.drawn≤w1.drawn:=a4.2.1;have e:=x4 (P:=P) (sl:=none) hz hs;rw[h1 w,e]at h;simp only at h;unfold Vi at h
  cases hc:w1.heap[c]? with
  |none=>rw[hc]at h;cases h
  |some o=>
   rw[hc]at h
   cases o with
   |coro k=>
    cases k with
    |some j=>
     simp only at h;injection h with h
     rw[YE]at h;by_cases hj:j=0
     ·subst hj
      have a9:(#[({g1 with status:= .finished}:Goroutine)]).modify 0 (fun o=>{o with status:= .running})= #[{g1 with status:= .running}]:=by
       apply iT
       ·simp
       ·intro i h1 h2
        have hi:i=0:=by simp at h2;exact h2
        subst hi;rw[iU,if_pos rfl];rfl
      rw[a9]at h;refine .inr ⟨{g1 with status:= .running},{w1 with heap:=w1.heap.setIfInBounds c (.coro none)},h.symm,k1,(fun hd=>by show g1.dying≠none;rw[k2];exact hd),(fun t ht=>by cases ht),fun hd b1 a8 =>⟨MemOp.ofEvents 0 g.frame.fn g.frame.place es,?_⟩⟩;refine⟨hr,b3,b2,fun T d n hn hT=> ?_,fun gs sl h0 hl=> ?_,xK _ _ _,vR k4 _ _⟩
      ·have hb:=jq hP hT true g hd hg.1
       rw[hs]at hb;have a5:=hb trivial hn;simp only[uW,ZN]at a5;rw[h1,x4 (P:=P) (sl:=none) hz a5];unfold Vi;rw[KV,hc];simp only;rw[YE,a9];rfl
      ·obtain⟨a1,a2,a3⟩:=OU (iL.1 h0).1 ({g1 with status:= .finished}:Goroutine)
       refine⟨_,by rw[x4 (P:=P) (sl:=sl) h0 hs];unfold Vi;rw[hc];rfl,?_,?_,fun i hi=> ?_⟩
       ·rw[Array.size_modify];exact a1
       ·rw[iV,if_pos rfl,a2];rfl
       ·rw[iV,if_neg (by omega)];exact a3 i hi
     ·have a9:(#[({g1 with status:= .finished}:Goroutine)]).modify j (fun o=>{o with status:= .running})= #[{g1 with status:= .finished}]:=by
       apply iT
       ·simp
       ·intro i h1 h2
        have hi:i=0:=by simp at h2;exact h2
        subst hi;rw[iU,if_neg hj]
      rw[a9]at h;exact .inr ⟨{g1 with status:= .finished},{w1 with heap:=w1.heap.setIfInBounds c (.coro none)},h.symm,k1,(fun hd=>by show g1.dying≠none;rw[k2];exact hd),(fun t ht=>by cases ht),(fun _ h=>by cases h)⟩
    |none=>
     simp only at h;have hd:=yO g1.frame k1.1 "coroswitch on exited coro" w1;generalize endThrow g1.frame "coroswitch on exited coro" w1=y at h hd
     cases y with
     |go g2 w2 d6=>
      injection h with h
      rw[YE]at h;exact .inr ⟨g2,w2,h.symm,hd.2.1,(fun _=>hd.1),hd.2.2,(fun _ _ h=>absurd h hd.1)⟩
     |_=>cases h
   |_=>cases h
 |spawn g1 ch w1 es=>
  rw[h1 w,show crowd #[g] w none=solo g w from rfl,runT_solo_spawn hs]at h;injection h with h
  subst h;exact .inl (by simp[duo])
 |ended o w1 es=>
  have:step P (solo g w)= .ended o w1:=by
   rw[h1 w];unfold runT crowd;simp only[qf hz,beq_self_eq_true,hs]
  rw[this]at h
  cases h
 |_=>rw[hs]at a0;exact a0.elim
end
section
variable {P:Program}{g:Goroutine}{w:World}
theorem f5 (h1:g.status≠ .running)(h2:∀t,g.status≠ .sleeping t){m:Machine}(h:step P (solo g w)= .next m):m=solo g w:=by
 have hc:g.canRun w.os.mono=false:=by
  unfold Goroutine.canRun
  cases hs:g.status<;>first|rfl|exact absurd hs h1|exact absurd hs (h2 _)
 unfold step stepT at h;have:move P (solo g w)= .machine (.next (solo g w))∨∃o v,move P (solo g w)= .machine (.ended o v):=by
  have ha:ahead (solo g w) false=none:=by
   unfold ahead solo
   cases hs:g.status<;>first|(simp[hs];done)|exact absurd hs (h2 _)
  simp only[move,ask,askOn,solo,runnable_eq,due]at ha⊢;by_cases hw:g.status= .waiting
  ·left
   simp[iW,hc,ha,pure,hw]
  ·right
   simp only[iW,List.range_zero,List.nil_append,List.size_toArray,List.length_cons,List.length_nil,iX,pure,Sem.run,if_true,Bool.false_eq_true,if_false];simp[hc,ha,hw];generalize endWith w 2 _ _=e
   cases e<;>exact⟨_,_,rfl⟩
 rcases this with e|⟨o,v,e⟩<;>rw[e]at h<;>simp only at h
 ·injection h with h;exact h.symm
 ·cases h
def BK (g:Goroutine):Prop:=g.dying≠none∨g.status≠ .running
theorem jP (hP:zH P):∀(n:Nat) (g:Goroutine) (w:World),okG g→(∀t,g.status≠ .sleeping t)→BK g→∀gf wf,runN P n (solo g w)= .next (solo gf wf)→BK gf
 |0,g,w,_,_,hl,gf,wf,h=>by
  injection h with h
  injection h with _ h1 _
  have:g=gf:=by
   have:=congrArg (fun a:Array Goroutine=>a[0]?) h1;simpa using this
  exact this▸hl
 |n+1,g,w,hg,ha,hl,gf,wf,h=>by
  simp only[runN]at h
  cases hs:step P (solo g w)with
  |ended o v=>rw[hs]at h;cases h
  |next m=>
   rw[hs]at h;simp only at h;by_cases hr:g.status= .running
   ·have hd:g.dying≠none:=hl.resolve_right (fun x=>x hr)
    rcases JS hP hg hr hs with h2|⟨g',w',rfl,a2,a1,a0,_⟩
    ·have:=kr h
     simp[solo]at this;omega
    ·exact jP hP n g' w' a2 a0 (.inl (a1 hd)) gf wf h
   ·rw[f5 hr ha hs]at h
    exact jP hP n g w hg ha (.inr hr) gf wf h
structure Fit (g:Goroutine):Prop where
 ok:okG g
 run:g.status= .running
 dy:g.dying=none
theorem jZ (hP:zH P){n:Nat}(hf:Fit g){gf:Goroutine}{wf:World}(a1:gf.status= .running∧gf.dying=none)(h:runN P (n+1) (solo g w)= .next (solo gf wf)):
  ∃g' w' ops,YM P g g' w w' ops∧Fit g' ∧step P (solo g w)= .next (solo g' w')∧runN P n (solo g' w')= .next (solo gf wf):=by
 simp only[runN]at h
 cases hs:step P (solo g w)with
 |ended o v=>rw[hs]at h;cases h
 |next m=>
  rw[hs]at h;simp only at h;rcases JS hP hf.ok hf.run hs with h2|⟨g',w',rfl,a0,a3,a2,ho⟩
  ·have:=kr h
   simp[solo]at this;omega
  ·have hl:¬BK g' :=fun hl=>by
    rcases jP hP n g' w' a0 a2 hl gf wf h with x|x
    ·exact x a1.2
    ·exact x a1.1
   have hr:g'.status= .running:=Classical.byContradiction fun x=>hl (.inr x)
   have hy:g'.dying=none:=Classical.byContradiction fun x=>hl (.inl x)
   obtain⟨ops,ho⟩:=ho hf.dy hr hy;exact⟨g',w',ops,ho,⟨a0,hr,hy⟩,rfl,h⟩
theorem uP {w:World}{T:Nat→Question→Nat}{d:Nat}(h:ZE w T d)(n:Nat):ZB w T d n:=fun k q _=>h k q
theorem jv (hP:zH P):∀(n:Nat) (g:Goroutine) (w:World),Fit g→∀gf wf,gf.status= .running∧gf.dying=none→runN P n (solo g w)= .next (solo gf wf)→∀T d,ZE w T d→
  runN P n (solo g (re w T d))= .next (solo gf (re wf T (d+(wf.drawn-w.drawn))))∧w.drawn≤wf.drawn
 |0,g,w,hf,gf,wf,_,h,T,d,hT=>by
  injection h with h
  injection h with e0 h1 _
  subst e0;have:g=gf:=by
   have:=congrArg (fun a:Array Goroutine=>a[0]?) h1;simpa using this
  subst this;refine⟨?_,eP _⟩;rw[Nat.sub_self,Nat.add_zero];rfl
 |n+1,g,w,hf,gf,wf,hgf,h,T,d,hT=>by
  obtain⟨g',w',ops,ho,a0,hs,hr⟩:=jZ hP hf hgf h;have h1:=ho.solo T d w'.drawn (eP _) (uP hT _);obtain⟨h2,h3⟩:=jv hP n g' w' a0 gf wf hgf hr T (d+(w'.drawn-w.drawn)) (hT.later ho.tape ho.drawn);refine⟨?_,eQ ho.drawn h3⟩;simp only[runN,h1];rw[h2];congr 3
  have:=ho.drawn;omega
def xm (P:Program)(Q:Goroutine→World→Prop)(g:Goroutine)(w:World):Prop:=
 ∀S:Goroutine→World→Prop,(∀g w,Q g w→S g w)→
  (∀(g:Goroutine) (w:World) (f:Nat→Goroutine) (v:Nat→World) (o:Nat→Array MemOp),g.status= .running→(∀d,YM P g (f d) (w.at d) (v d) (o d))→(∀d,S (f d) (v d))→S g w)→S g w
theorem xm.stop {P:Program}{Q:Goroutine→World→Prop}{g:Goroutine}{w:World}(h:Q g w):xm P Q g w:=fun _ a _=>a g w h
theorem xm.step {P:Program}{Q:Goroutine→World→Prop}{g:Goroutine}{w:World}(f:Nat→Goroutine)(v:Nat→World)(o:Nat→Array MemOp)(hr:g.status= .running)(ho:∀d,YM P g (f d) (w.at d) (v d) (o d))(hw:∀d,xm P Q (f d) (v d)):xm P Q g w:=
 fun S a b=>b g w f v o hr ho fun d=>hw d S a b
theorem xm.ind {P:Program}{Q:Goroutine→World→Prop}{a0:∀(g:Goroutine) (w:World),xm P Q g w→Prop}
  (stop:∀{g:Goroutine} {w:World} (h:Q g w),a0 g w (.stop h))
  (step:∀{g:Goroutine} {w:World} (f:Nat→Goroutine) (v:Nat→World) (o:Nat→Array MemOp) (hr:g.status= .running) (ho:∀d,YM P g (f d) (w.at d) (v d) (o d)) (hw:∀d,xm P Q (f d) (v d)),(∀d,a0 (f d) (v d) (hw d))→a0 g w (.step f v o hr ho hw))
  {g:Goroutine}{w:World}(h:xm P Q g w):a0 g w h:=
 (h (fun g w=>∃x:xm P Q g w,a0 g w x) (fun _ _ q=>⟨.stop q,stop q⟩) (fun _ _ f v o hr ho k=>⟨.step f v o hr ho fun d=>(k d).1,step f v o hr ho _ fun d=>(k d).2⟩)).2
def Yk (P:Program)(Q:Goroutine→World→Prop)(g:Goroutine)(w:World):Prop:=
 ∀T d,∃n gf wf,runN P n (solo g (re w T d))= .next (solo gf wf)∧Q gf wf∧gf.status= .running∧gf.dying=none
variable {Q:Goroutine→World→Prop}
theorem Yk.next (hP:zH P)(hQ:∀g w T d,Q g w→Q g (re w T d))(hf:Fit g)(hR:Yk P Q g w)(hq:¬Q g w)(d0:Nat){g' :Goroutine}{w' :World}{ops:Array MemOp}(ho:YM P g g' (w.at d0) w' ops)(a2 :Fit g'):Yk P Q g' w' :=by
 intro T d;have a4:d0≤w'.drawn:=ho.drawn;obtain⟨n,gf,wf,hr,a1,a0⟩:=hR (fun j q=>if j<w'.drawn-d0 then w.tape (d0+j) q else T (d+(j-(w'.drawn-d0))) q) 0;have hs:=ho.solo (fun j q=>if j<w'.drawn-d0 then w.tape (d0+j) q else T (d+(j-(w'.drawn-d0))) q) 0 w'.drawn (eP _) (fun k q hk=>by
  have a3 :k<w'.drawn-d0:=hk;simp only[iX,a3,if_true];rfl)
 cases n with
 |zero=>
  exfalso
  injection hr with h
  injection h with e0 h1 _
  subst e0;have:g=gf:=by
   have:=congrArg (fun a:Array Goroutine=>a[0]?) h1;simpa using this
  subst this;have h9:=hQ _ _ w.tape w.drawn a1;exact hq h9
 |succ n=>
  simp only[runN]at hr;rw[show re w (fun j q=>if j<w'.drawn-d0 then w.tape (d0+j) q else T (d+(j-(w'.drawn-d0))) q) 0=re (w.at d0) (fun j q=>if j<w'.drawn-d0 then w.tape (d0+j) q else T (d+(j-(w'.drawn-d0))) q) 0 from rfl,hs]at hr;simp only at hr;obtain⟨h2,_⟩:=jv hP n g' _ a2 gf wf a0 hr T d (fun k q=>by
   show T (d+k) q=(if 0+(w'.drawn-d0)+k<w'.drawn-d0 then w.tape (d0+(0+(w'.drawn-d0)+k)) q else T (d+(0+(w'.drawn-d0)+k-(w'.drawn-d0))) q)
   rw[if_neg (by omega)];congr 1
   omega)
  exact⟨n,gf,_,h2,hQ _ _ _ _ a1,a0⟩
theorem G3 (hP:zH P)(hQ:∀g w T d,Q g w→Q g (re w T d))(hf:Fit g)(hR:Yk P Q g w)(hq:¬Q g w)(d:Nat):∃g' w' ops,YM P g g' (w.at d) w' ops∧Fit g' :=by
 obtain⟨n,gf,wf,hr,a2,a1⟩:=hR w.tape d
 cases n with
 |zero=>
  exfalso
  injection hr with h
  injection h with e0 h1 _
  subst e0;have:g=gf:=by
   have:=congrArg (fun a:Array Goroutine=>a[0]?) h1;simpa using this
  subst this;have h9:=hQ _ _ w.tape w.drawn a2;exact hq h9
 |succ n=>
  obtain⟨g',w',ops,ho,a0,_⟩:=jZ hP hf a1 hr;exact⟨g',w',ops,ho,a0⟩
structure Fm (P:Program)(Q:Goroutine→World→Prop)(tp:Nat→Question→Nat)where
 g:Goroutine
 w:World
 fit:Fit g
 reach:Yk P Q g w
 none:¬xm P Q g w
 tape:w.tape=tp
theorem Fm.next (hP:zH P)(hQ:∀g w T d,Q g w→Q g (re w T d)){tp:Nat→Question→Nat}(s:Fm P Q tp):∃x:Nat×Fm P Q tp,∃ops,YM P s.g x.2.g (s.w.at x.1) x.2.w ops:=by
 have hq:¬Q s.g s.w:=fun h=>s.none (.stop h)
 have h1:=G3 hP hQ s.fit s.reach hq;have h2:¬∀d,∃x:Goroutine×World×Array MemOp,(YM P s.g x.1 (s.w.at d) x.2.1 x.2.2)∧xm P Q x.1 x.2.1:=by
  intro h;obtain⟨f,hf⟩:=Classical.axiomOfChoice h;exact s.none (.step (fun d=>(f d).1) (fun d=>(f d).2.1) (fun d=>(f d).2.2) s.fit.run (fun d=>(hf d).1) (fun d=>(hf d).2))
 obtain⟨d,hd⟩:=Classical.not_forall.1 h2;obtain⟨g',w',ops,ho,a0⟩:=h1 d;have hw:¬xm P Q g' w' :=fun h=>hd ⟨(g',w',ops),ho,h⟩
 exact⟨(d,⟨g',w',a0,s.reach.next hP hQ s.fit hq d ho a0,hw,ho.tape.trans s.tape⟩),ops,ho⟩
theorem km (hP:zH P)(hQ:∀g w T d,Q g w→Q g (re w T d))(hf:Fit g)(hR:Yk P Q g w):xm P Q g w:=by
 classical
 refine Classical.byContradiction fun hn=> ?_
 obtain⟨nx,a8⟩:=Classical.axiomOfChoice (fun s:Fm P Q w.tape=>s.next hP hQ);let s0:Fm P Q w.tape:=⟨g,w,hf,hR,hn,rfl⟩
 let s:Nat→Fm P Q w.tape:=fun k=>Nat.rec s0 (fun _ x=>(nx x).2) k
 have b1:s 0=s0:=rfl;have b2:∀k,s (k+1)=(nx (s k)).2:=fun k=>rfl
 let D:Nat→Nat:=fun k=>(nx (s k)).1
 have a3:∀k,∃ops,YM P (s k).g (s (k+1)).g ((s k).w.at (D k)) (s (k+1)).w ops:=fun k=>a8 (s k)
 let c:Nat→Nat:=fun k=>(s (k+1)).w.drawn-D k
 let e:Nat→Nat:=fun k=>Nat.rec 0 (fun i x=>x+c i) k
 have a9:e 0=0:=rfl;have a2:∀k,e (k+1)=e k+c k:=fun k=>rfl
 have a0:∀a b,a≤b→e a≤e b:=by
  intro a b h;induction h with
  |refl=>exact eP _
  |step _ ih=>rw[Nat.succ_eq_add_one,a2];omega
 let T:Nat→Question→Nat:=fun j q=>if h:∃k,e k≤j∧j<e (k+1)then w.tape (D h.choose+(j-e h.choose)) q else 0
 have hT:∀k j q,j<c k→T (e k+j) q=w.tape (D k+j) q:=by
  intro k j q hj;have a1:∃i,e i≤e k+j∧e k+j<e (i+1):=⟨k,by omega,by rw[a2];omega⟩
  have hc:=a1.choose_spec;have hk:a1.choose=k:=by
   rcases Nat.lt_trichotomy a1.choose k with h|h|h
   ·have:=a0 (a1.choose+1) k h
    omega
   ·exact h
   ·have:=a0 (k+1) a1.choose h
    rw[a2]at this;omega
  show(if h:∃i,e i≤e k+j∧e k+j<e (i+1)then w.tape (D h.choose+(e k+j-e h.choose)) q else 0)=_;rw[dif_pos a1,hk];congr 1
  omega
 have a4:∀k,runN P k (solo g (re w T 0))= .next (solo (s k).g (re (s k).w T (e k))):=by
  intro k;induction k with
  |zero=>rfl
  |succ k ih=>
   rw[runN_add,ih];simp only;obtain⟨ops,ho⟩:=a3 k;have h1:=ho.solo T (e k) (s (k+1)).w.drawn (eP _) (fun j q hj=>by
    have a7 :j<c k:=hj;rw[hT k j q a7];show w.tape (D k+j) q=(s k).w.tape (D k+j) q;rw[(s k).tape])
   simp only[runN];rw[show re (s k).w T (e k)=re ((s k).w.at (D k)) T (e k)from rfl,h1];simp only;rfl
 obtain⟨n,gf,wf,hr,a5,_⟩:=hR T 0;rw[a4 n]at hr;injection hr with h
 injection h with e0 h1 _
 have a6:(s n).g=gf:=by
  have:=congrArg (fun a:Array Goroutine=>a[0]?) h1;simpa using this
 rw[←e0,←a6]at a5;have h9:=hQ _ _ (s n).w.tape (s n).w.drawn a5;exact(s n).none (.stop h9)
end
open Go.ConcN (sumTo upd sumTo_upd upd_ne upd_same)
def YZ (t:Trace):Prop:=∃B,Past (fun _=>False) B t
theorem ud (u:List MemOp):∃B,∀op∈u,op.act.low B:=by
 induction u with
 |nil=>exact⟨0,fun _ h=>by cases h⟩
 |cons x u ih=>
  obtain⟨B,hB⟩:=ih;have hx:∃B',x.act.low B' :=by
   cases x.act with
   |access e=>
    obtain⟨a2,wr,sy⟩:=e
    cases a2 with
    |cell a=>exact⟨a.block+1,iY _⟩
    |obj r=>exact⟨r+1,iY _⟩
    |output=>exact⟨0,trivial⟩
    |goroutines=>exact⟨0,trivial⟩
    |mark m=>exact⟨0,trivial⟩
   |mark m=>
    cases m with
    |acquire a=>exact⟨a.block+1,iY _⟩
    |release a=>exact⟨a.block+1,iY _⟩
    |releaseMerge a=>exact⟨a.block+1,iY _⟩
    |read a=>exact⟨a.block+1,iY _⟩
    |write a=>exact⟨a.block+1,iY _⟩
    |_=>exact⟨0,trivial⟩
   |go n=>exact⟨0,trivial⟩
   |start=>exact⟨0,trivial⟩
   |send c n=>exact⟨c+1,iY _⟩
   |sendDone c n=>exact⟨c+1,iY _⟩
   |recv c n k=>exact⟨c+1,iY _⟩
   |recvDone c n=>exact⟨c+1,iY _⟩
   |close c=>exact⟨c+1,iY _⟩
   |recvClosed c=>exact⟨c+1,iY _⟩
  obtain⟨B',a1⟩:=hx;refine⟨B+B',fun op a0=> ?_⟩;rcases iC.1 a0 with rfl|a0
  ·exact MemAct.low_mono (by omega) a1
  ·exact MemAct.low_mono (by omega) (hB op a0)
theorem YZ.own {t:Trace}(h:YZ t){u:Array MemOp}(hu:∀op∈u,op.g=0)(hd:Deaf (t++u) 0=Deaf t 0):YZ (t++u):=by
 obtain⟨B,hB⟩:=h;obtain⟨B',a0⟩:=ud u.toList;exact⟨B+B',(hB.mono (Nat.le_add_right B B')).app0 hu (fun _ _ _ _ h=>h.elim) hd (fun op a1=>MemAct.low_mono (by omega) (a0 op (by simpa using a1)))⟩
theorem YZ.mute {t:Trace}(h:YZ t){g:Nat}(hg:g≠0){fn:FuncId}{pos:String}{es:Array Event}(hm:∀e∈es,e.mute=true):YZ (t++MemOp.ofEvents g fn pos es):=
 let⟨B,hB⟩:=h;⟨B,hB.mute hg hm⟩
def To (P:Program)(Q:Goroutine→World→Prop)(g:Goroutine)(w:World):Prop:=
 ∀(gs:Array Goroutine) (sl:Option (Nat×Nat)) (t:Trace) (q:Nat→Nat),gs[0]? =some g→Leavers P t gs q→YZ t→
  ∃(N:Nat) (gs' :Array Goroutine) (g' :Goroutine) (w' :World) (sl' :Option (Nat×Nat)) (t' :Trace) (q' :Nat→Nat),
   runNT P N (crowd gs w sl) t=(.next (crowd gs' w' sl'),t')∧gs'[0]? =some g' ∧Q g' w' ∧Leavers P t' gs' q' ∧YZ t'
section
variable {P:Program}{Q:Goroutine→World→Prop}{g:Goroutine}{w:World}
theorem yv {t:Trace}{gs:Array Goroutine}{q:Nat→Nat}(hL:Leavers P t gs q):∀(i:Nat) h,0<i→gs[i]? =some h→h.status= .running∨h.status= .finished:=fun i h hi hx=>(hL.old i h hi hx).status
theorem Kp {gs:Array Goroutine}{sl:Option (Nat×Nat)}{t:Trace}{q:Nat→Nat}{i:Nat}{b:Goroutine}(hi:0<i)(hb:gs[i]? =some b)(hr:b.status= .running)(h0:gs[0]? =some g)(hg:g.status= .running)(hL:Leavers P t gs q)(hP:YZ t):
  ∃gs' ops q',runT P (crowd gs w sl) i=(.next (crowd gs' w sl),ops)∧gs'.size=gs.size∧gs'[0]? =some g∧Leavers P (t++ops) gs' q' ∧YZ (t++ops)∧sumTo gs'.size q' <sumTo gs.size q:=by
 have hq:=hL.old i b hi hb;have a7:(i==0)=false:=by simp;omega
 have a6:i<gs.size:=(iL.1 hb).1
 cases a4:q i with
 |zero=>rw[a4]at hq;rw[hq.1]at hr;cases hr
 |succ k=>
  rw[a4]at hq;rcases hq with⟨hf,_⟩|⟨_,g',es,hm,a5,a9⟩
  ·rw[hf]at hr;cases hr
  have a1:=runT_crowd_go (P:=P) (sl:=sl) (i:=i) (w:=w) hb (by rw[a7];exact a5 w);have a3:((gs.map (woken P b g' w)).setIfInBounds i g').size=gs.size:=by simp
  have b1:sumTo gs.size (upd q i k)+(k+1)=sumTo gs.size q+k:=by
   have:=sumTo_upd q k id a6;simpa[a4]using this
  refine⟨_,_,upd q i k,a1,a3,?_,⟨fun j x hj hx=> ?_,fun j hj=> ?_⟩,hP.mute (by omega) hm,by rw[a3];omega⟩
  ·have a8:i≠0:=by omega
   rw[iO a8,iR,h0];simp only[iS];congr 1
   unfold woken;split
   ·exact again_running _ (.inl hg)
   ·rfl
  ·by_cases a2:i=j
   ·subst a2
    rw[Array.getElem?_setIfInBounds_self_of_lt (by simpa using a6)]at hx;obtain rfl:=Option.some.inj hx;rw[upd_same,Deaf_own];exact a9
   ·rw[iO a2,iR]at hx
    obtain⟨y,hy,rfl⟩:=Option.map_eq_some_iff.1 hx;have h1:=hL.old j y hj hy;rw[woken_quitsD h1,upd_ne _ _ (fun e=>a2 e.symm),Deaf_other t (g' :=i) a2 _ (fun op a0=>by
     rw[ofEvents_eq]at a0;obtain⟨e,_,rfl⟩:=iQ.1 a0;rfl)]
    exact h1
  ·rw[Deaf_other t (g' :=i) (by rw[a3]at hj;omega) _ (fun op a0=>by
    rw[ofEvents_eq]at a0;obtain⟨e,_,rfl⟩:=iQ.1 a0;rfl)]
   exact hL.above j (by rw[a3]at hj;exact hj)
theorem od (hQ:∀g w T d,Q g w→Q g (re w T d))(h:xm P Q g w):To P Q g w:=by
 induction h using xm.ind with
 |stop hq=>exact fun gs sl t q h0 hL hP=>⟨0,gs,_,_,sl,t,q,rfl,h0,hq,hL,hP⟩
 | @step g w f v o hr ho _ ih=>
  suffices H:∀(M:Nat) (gs:Array Goroutine) (d0:Nat) (sl:Option (Nat×Nat)) (t:Trace) (q:Nat→Nat),sumTo gs.size q<M→gs[0]? =some g→Leavers P t gs q→YZ t→
    ∃(N:Nat) (gs' :Array Goroutine) (g' :Goroutine) (w' :World) (a2 :Option (Nat×Nat)) (t' :Trace) (q' :Nat→Nat),
     runNT P N (crowd gs (w.at d0) sl) t=(.next (crowd gs' w' a2),t')∧gs'[0]? =some g' ∧Q g' w' ∧Leavers P t' gs' q' ∧YZ t' by
   intro gs sl t q h0 hL hP;exact H _ gs w.drawn sl t q (iY _) h0 hL hP
  intro M;induction M with
  |zero=>
   intro gs d0 sl t q hM;exact absurd hM (Nat.not_lt_zero _)
  |succ M b9=>
   intro gs d0 sl t q hM h0 hL hP;have b6:∀x∈gs,awake x:=by
    intro x hx;obtain⟨i,hi,rfl⟩:=iM.1 hx;rcases iN i with rfl|a0
    ·have:gs[0]=g:=by simpa[iP hi]using h0
     rw[this];exact awake_of (.inl hr)
    ·exact awake_of ((hL.old i _ a0 (iP hi)).status.elim .inl fun x=> .inr (.inr x))
   obtain⟨i,b,d,a2,hi,hb,b4⟩:=crowd_pick (P:=P) (w:=w.at d0) (sl:=sl) b6 ⟨0,g,h0,hr⟩;rcases iN i with rfl|a0
   ·obtain rfl:b=g:=by rw[h0]at hi;exact(Option.some.inj hi).symm
    obtain⟨a3,b2,b8,a5,a9⟩:=(ho d).crowd gs a2 h0 (yv hL);have a7:Leavers P (t++o d) a3 q:=⟨fun j x hj hx=>by
      rw[Deaf_other t (g' :=0) (by omega) _ (ho d).own];exact hL.old j x hj (by rw[←a9 j hj];exact hx),fun j hj=>by
      have b7:0<gs.size:=(iL.1 h0).1;rw[Deaf_other t (g' :=0) (by omega) _ (ho d).own];exact hL.above j (by omega)⟩
    obtain⟨N,gs',g',w',a1,t',q',b3,a4,b1,a6,a8⟩:=ih d a3 a2 (t++o d) q a5 a7 (hP.own (ho d).own ((ho d).deaf t));refine⟨N+1,gs',g',w',a1,t',q',?_,a4,b1,a6,a8⟩;simp only[runNT,b4];rw[show(w.at d0).at d=w.at d from rfl,b2];exact b3
   ·obtain⟨a3,ops,q1,b2,b8,a5,a7,b5,b7⟩:=Kp (P:=P) (w:=w.at d) (sl:=a2) a0 hi hb h0 hr hL hP
    obtain⟨N,gs',g',w',a1,t',q',b3,a4,b1,a6,a8⟩:=b9 a3 d a2 (t++ops) q1 (by omega) a5 a7 b5;refine⟨N+1,gs',g',w',a1,t',q',?_,a4,b1,a6,a8⟩;simp only[runNT,b4];rw[show(w.at d0).at d=w.at d from rfl,b2];exact b3
theorem To.done (h:Q g w):To P Q g w:=fun gs sl t q h0 hL hP=>⟨0,gs,g,w,sl,t,q,rfl,h0,h,hL,hP⟩
theorem To.trans {Q' :Goroutine→World→Prop}(h:To P Q g w)(h' :∀g w,Q g w→To P Q' g w):To P Q' g w:=by
 intro gs sl t q h0 hL hP;obtain⟨N,a0,g1,w1,a8,t1,q1,hr,h1,hq,a2,a4⟩:=h gs sl t q h0 hL hP;obtain⟨N2,a1,g2,w2,a9,t2,q2,a7,h2,a6,a3,a5⟩:=h' g1 w1 hq a0 a8 t1 q1 h1 a2 a4;refine⟨N+N2,a1,g2,w2,a9,t2,q2,?_,h2,a6,a3,a5⟩;rw[runNT_add,hr];exact a7
theorem To.lone (hP:zH P)(hQ:∀g w T d,Q g w→Q g (re w T d))(hf:Fit g)(hR:Yk P Q g w):To P Q g w:=od hQ (km hP hQ hf hR)
end
