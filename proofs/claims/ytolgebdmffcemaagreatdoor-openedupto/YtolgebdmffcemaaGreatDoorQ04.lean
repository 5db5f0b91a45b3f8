import Derived.Test.YtolgebdmffcemaaGreatDoorQ03
import Derived.Conc.CrowdComm
set_option linter.all false
set_option maxHeartbeats 20000000
set_option maxRecDepth 1000000
open Go renaming World→eX,Event→eS,Program→eA,Goroutine→eZ,Value→eB,undef→lS,Trace→lD,Frame→iK,Question→iC,Exit→mH
open Nat renaming le_refl→iA,le_of_lt→lW,lt_of_lt_of_le→lY,eq_zero_or_pos→lG,lt_succ_self→lR,not_lt_zero→mD
open Go.Trace renaming g?→lT,act?→lU
open Option renaming map_eq_some_iff→iY,map_some→lL
open Array renaming mem_map→lJ,append_assoc→lX,getElem?_eq_some_iff→lE,getElem?_setIfInBounds_ne→lH,getElem?_map→lK,mem_iff_getElem→lF,getElem?_eq_getElem→lI,getElem?_setIfInBounds_self_of_lt→mA,size_setIfInBounds→mB,size_map→mC,size_push→mE,getElem?_push_lt→mF,replicate→mL
open List renaming mem_toArray→lV,mem_cons→iT,not_mem_nil→lA,cons_append→mJ
open Go.World renaming setChan→lZ
open Go.Proofs.YtolgebdmffcemaaGreatDoor renaming re→mG
open Go.Frame renaming enter→iM,finish_at→mI
namespace Go.Proofs.YtolgebdmffcemaaGreatDoor
open Go Go.Conc
abbrev Blk:=Nat→Prop
structure Rel (Old A:Blk)(w w1:eX):Prop where
 tape:w1.tape=w.tape
 os:w1.os=w.os
 output:w1.output=w.output
 size:w.heap.size≤w1.heap.size
 own:∀b,A b∨Old b→w1.heap[b]? =w.heap[b]?
def EvO (Old A:Blk)(e:eS):Prop:=
 (∃a:Addr,e.loc= .cell a∧(A a.block∨(e.write=false∧Old a.block)))∨(∃m,e.loc= .mark m∧Neutral m)∨(∃c,e=⟨.obj c,false,true⟩)
structure yQ (Old A A' :Blk)(w w' :eX)(es:Array eS):Prop where
 tape:w'.tape=w.tape
 os:w'.os=w.os
 output:w'.output=w.output
 size:w.heap.size≤w'.heap.size
 keep:∀b,A b→A' b
 new:∀b,A' b→A b∨(w.heap.size≤b∧b<w'.heap.size)
 rest:∀b,b<w.heap.size→¬A b→w'.heap[b]? =w.heap[b]?
 evs:∀e∈es,EvO Old A' e
theorem Rel.refl (Old A:Blk)(w:eX):Rel Old A w w:=⟨rfl,rfl,rfl,iA _,fun _ _=>rfl⟩
theorem Rel.trans {Old A:Blk}{a b c:eX}(h:Rel Old A a b)(h' :Rel Old A b c):Rel Old A a c:=
 ⟨h'.tape.trans h.tape,h'.os.trans h.os,h'.output.trans h.output,Nat.le_trans h.size h'.size,fun k hk=>(h'.own k hk).trans (h.own k hk)⟩
theorem Rel.at (Old A:Blk)(w:eX)(d:Nat):Rel Old A w (w.at d):=⟨rfl,rfl,rfl,iA _,fun _ _=>rfl⟩
def OW (P:eA)(main:Bool)(Old:Blk)(Q:Blk→eZ→eX→Prop)(A:Blk)(g:eZ)(w:eX):Prop:=
 ∀S:Blk→eZ→eX→Prop,(∀A g w,(∀w1,Rel Old A w w1→Q A g w1)→S A g w)→
  (∀(A:Blk) (g:eZ) (w:eX) (f:eX→eZ) (v:eX→eX) (e:eX→Array eS) (B:eX→Blk),g.status= .running→
   (∀w1,Rel Old A w w1→stepG P main g w1= .go (f w1) (v w1) (e w1)∧yQ Old A (B w1) w1 (v w1) (e w1))→(∀w1,Rel Old A w w1→S (B w1) (f w1) (v w1))→S A g w)→S A g w
section
variable {P:eA}{main:Bool}{Old:Blk}{Q:Blk→eZ→eX→Prop}
theorem OW.stop {A:Blk}{g:eZ}{w:eX}(h:∀w1,Rel Old A w w1→Q A g w1):OW P main Old Q A g w:=fun _ a _=>a A g w h
theorem OW.step {A:Blk}{g:eZ}{w:eX}(f:eX→eZ)(v:eX→eX)(e:eX→Array eS)(B:eX→Blk)(hs:g.status= .running)
  (h1:∀w1,Rel Old A w w1→stepG P main g w1= .go (f w1) (v w1) (e w1)∧yQ Old A (B w1) w1 (v w1) (e w1))(h2:∀w1,Rel Old A w w1→OW P main Old Q (B w1) (f w1) (v w1)):OW P main Old Q A g w:=
 fun S a b=>b A g w f v e B hs h1 fun w1 hr=>h2 w1 hr S a b
theorem OW.ind {a0:∀(A:Blk) (g:eZ) (w:eX),OW P main Old Q A g w→Prop}
  (stop:∀{A:Blk} {g:eZ} {w:eX} (h:∀w1,Rel Old A w w1→Q A g w1),a0 A g w (.stop h))
  (step:∀{A:Blk} {g:eZ} {w:eX} (f:eX→eZ) (v:eX→eX) (e:eX→Array eS) (B:eX→Blk) (hs:g.status= .running)
   (h1:∀w1,Rel Old A w w1→stepG P main g w1= .go (f w1) (v w1) (e w1)∧yQ Old A (B w1) w1 (v w1) (e w1)) (h2:∀w1,Rel Old A w w1→OW P main Old Q (B w1) (f w1) (v w1)),(∀w1 hr,a0 (B w1) (f w1) (v w1) (h2 w1 hr))→a0 A g w (.step f v e B hs h1 h2))
  {A:Blk}{g:eZ}{w:eX}(h:OW P main Old Q A g w):a0 A g w h:=
 (h (fun A g w=>∃x:OW P main Old Q A g w,a0 A g w x) (fun _ _ _ q=>⟨.stop q,stop q⟩) (fun _ _ _ f v e B hs h1 k=>⟨.step f v e B hs h1 fun w1 hr=>(k w1 hr).1,step f v e B hs h1 _ fun w1 hr=>(k w1 hr).2⟩)).2
end
section
variable {P:eA}{main:Bool}{Old:Blk}{Q:Blk→eZ→eX→Prop}{A:Blk}{g:eZ}{w:eX}
theorem OW.rely (h:OW P main Old Q A g w){w1:eX}(hr:Rel Old A w w1):OW P main Old Q A g w1:=by
 induction h using OW.ind with
 |stop h=>exact .stop fun w2 h2=>h w2 (hr.trans h2)
 |step f v e B hs h1 h2 _=>exact .step f v e B hs (fun w2 a0=>h1 w2 (hr.trans a0)) (fun w2 a0=>h2 w2 (hr.trans a0))
theorem OW.running (h:OW P main Old Q A g w)(hq:∀A g w,Q A g w→g.status= .running):g.status= .running:=by
 induction h using OW.ind with
 | @stop A g w h=>exact hq _ _ _ (h w (Rel.refl _ _ _))
 |step f v e B hs h1 h2 _=>exact hs
theorem OW.one (hs:g.status= .running)(h:∀w1,Rel Old A w w1→∃g' w' es A',stepG P main g w1= .go g' w' es∧yQ Old A A' w1 w' es∧OW P main Old Q A' g' w'):OW P main Old Q A g w:=by
 classical
 have h' :∀w1:eX,∃x:eZ×eX×Array eS×Blk,Rel Old A w w1→stepG P main g w1= .go x.1 x.2.1 x.2.2.1∧yQ Old A x.2.2.2 w1 x.2.1 x.2.2.1∧OW P main Old Q x.2.2.2 x.1 x.2.1:=by
  intro w1;by_cases hr:Rel Old A w w1
  ·obtain⟨g',w',es,A',h1,h2,h3⟩:=h w1 hr
   exact⟨(g',w',es,A'),fun _=>⟨h1,h2,h3⟩⟩
  ·exact⟨(g,w,#[],A),fun x=>absurd x hr⟩
 obtain⟨f,hf⟩:=Classical.axiomOfChoice h';exact .step (fun x=>(f x).1) (fun x=>(f x).2.1) (fun x=>(f x).2.2.1) (fun x=>(f x).2.2.2) hs (fun w1 hr=>⟨(hf w1 hr).1,(hf w1 hr).2.1⟩) (fun w1 hr=>(hf w1 hr).2.2)
theorem yQ.idle (Old A:Blk)(w:eX):yQ Old A A w w #[]:=⟨rfl,rfl,rfl,iA _,fun _ h=>h,fun _ h=> .inl h,fun _ _ _=>rfl,by simp⟩
theorem OW.ctl {g' :eZ}(hs:g.status= .running)(h:∀w1,stepG P main g w1= .go g' w1)(h' :OW P main Old Q A g' w):OW P main Old Q A g w:=
 .one hs fun w1 hr=>⟨g',w1,#[],A,h w1,yQ.idle _ _ _,h'.rely hr⟩
end
section
variable (P:eA)(Old:Blk)(c:Nat)
def uY (z:eB)(A:Blk)(g:eZ)(w:eX):Prop:=
 g.status= .running∧∃es,stepG P true g w= .comm (core g) #[rcase c z] true (.recv true) w es∧∀e∈es,EvO Old A e
def Rcv (z:eB)(Fin:Blk→eZ→eX→Prop):List eB→Blk→eZ→eX→Prop
 |[],A,g,w=>OW P true Old (fun A g w=>uY P Old c z A g w∧∀w2,Rel Old A w w2→Fin A (Conc.served (core g) (.tuple #[z,.bool false])) w2) A g w
 |v::vs,A,g,w=>OW P true Old (fun A g w=>uY P Old c z A g w∧∀w2,Rel Old A w w2→Rcv z Fin vs A (Conc.served (core g) (.tuple #[v,.bool true])) w2) A g w
def Bk (v:eB)(Next:eZ→eX→Prop)(A:Blk)(g:eZ)(w:eX):Prop:=
 g.status= .running∧∃g2 z es,stepG P false g w= .comm g2 #[scase c v z] true .send w es∧(∀e∈es,EvO Old A e)∧∀w2,Rel Old A w w2→Next (Conc.served g2 lS) w2
def CB (A:Blk)(g:eZ)(w:eX):Prop:=
 g.status= .running∧mayWake P g=true∧∃(g2:eZ) (es:Array eS) (n:Nat),(∀s r tm,w.heap[c]? =some (.chan 0 #[] false s r tm)→stepG P false g w= .go g2 (w.shut c s r tm) (es.push ⟨.obj c,true,true⟩))∧
  (∀e∈es,EvO Old A e)∧QuitsIn P n g2
def Snd:List eB→Blk→eZ→eX→Prop
 |[],A,g,w=>OW P false Old (fun A g w=>CB P Old c A g w) A g w
 |v::vs,A,g,w=>OW P false Old (fun A g w=>Bk P Old c v (Snd vs A) A g w) A g w
def Yr (z:eB)(Fin:Blk→eZ→eX→Prop):List eB→Blk→eZ→eX→Prop
 |[]=>fun A g w=>uY P Old c z A g w∧∀w2,Rel Old A w w2→Fin A (Conc.served (core g) (.tuple #[z,.bool false])) w2
 |v::vs=>fun A g w=>uY P Old c z A g w∧∀w2,Rel Old A w w2→Rcv P Old c z Fin vs A (Conc.served (core g) (.tuple #[v,.bool true])) w2
def qH:List eB→Blk→eZ→eX→Prop
 |[]=>fun A g w=>CB P Old c A g w
 |v::vs=>fun A g w=>Bk P Old c v (Snd P Old c vs A) A g w
theorem xA (z:eB)(Fin:Blk→eZ→eX→Prop)(vs:List eB)(A:Blk)(g:eZ)(w:eX):Rcv P Old c z Fin vs A g w↔OW P true Old (Yr P Old c z Fin vs) A g w:=by cases vs<;>exact Iff.rfl
theorem Vt (vs:List eB)(A:Blk)(g:eZ)(w:eX):Snd P Old c vs A g w↔OW P false Old (qH P Old c vs) A g w:=by cases vs<;>exact Iff.rfl
end
section
variable {P:eA}{Old:Blk}{c:Nat}{z:eB}{Fin:Blk→eZ→eX→Prop}{vs:List eB}{A:Blk}{g:eZ}{w:eX}
theorem Yr.at (h:Yr P Old c z Fin vs A g w):uY P Old c z A g w:=by cases vs<;>exact h.1
theorem Yr.run (h:Yr P Old c z Fin vs A g w):g.status= .running:=h.at.1
theorem qH.run (h:qH P Old c vs A g w):g.status= .running:=by cases vs<;>exact h.1
theorem Yr.again (h:Yr P Old c z Fin vs A g w):Yr P Old c z Fin vs A {parked (core g) #[rcase c z] (.recv true)with status:= .running} w:=by
 have e:stepG P true {parked (core g) #[rcase c z] (.recv true)with status:= .running} w=stepG P true g w:=stepG_same rfl rfl rfl w
 cases vs<;>exact let⟨⟨_,es,h1,h2⟩,h3⟩:=h;⟨⟨rfl,es,by rw[e];exact h1,h2⟩,h3⟩
end
def xH (Old A:Blk)(a:Touch):Prop:=
 (∃x:Addr,a.loc= .cell x∧(A x.block∨(a.write=false∧Old x.block)))∨((∃c,a.loc= .obj c)∧a.write=false∧a.kind= .atomic)
structure uZ (Old A0 AK:Blk):Prop where
 ok:∀b,A0 b→¬AK b
 o0:∀b,A0 b→¬Old b
 oK:∀b,AK b→¬Old b
structure Mid (Old A0 AK:Blk)(k:Nat)(t:lD):Prop where
 clean:∀said,¬Race said t
 touch:∀i a,touchAt t i=some a→a.loc.isMemory=true→(Knows t 0 i∧Knows t k i)∨(t.g? i=some 0∧xH Old A0 a)∨(t.g? i=some k∧xH Old AK a)
 over:∀i g,t.g? i=some g→g≠0→g≠k→t.counts i→∃j,t.g? j=some 0∧HappensBefore t i j
 hears0:Deaf t 0=0
 hearsK:Deaf t k=0
section
variable {Old A0 AK A0' AK' :Blk}{k:Nat}{t u:lD}
theorem xH.mono {A A' :Blk}(h:∀b,A b→A' b){a:Touch}(ha:xH Old A a):xH Old A' a:=ha.imp (fun⟨x,h1,h2⟩=>⟨x,h1,h2.imp (h _) id⟩) id
theorem Kj {X Y:Blk}(a3:∀b,X b→¬Y b)(hX:∀b,X b→¬Old b)(hY:∀b,Y b→¬Old b){a b:Touch}{a0:Bool}(ha:xH Old X a)(hb:xH Old Y b)(hc:a.conflicts a0 b):False:=by
 obtain⟨hl,_,hw,hk⟩:=hc;rcases ha with⟨x,hx,a1⟩|⟨⟨c,hx⟩,a4,a1⟩
 ·rcases hb with⟨y,hy,a2⟩|⟨⟨c,hy⟩,_⟩
  ·rw[hx,hy]at hl
   injection hl with hl
   subst hl;rcases a1 with h1|⟨h1,h2⟩<;>rcases a2 with h3|⟨h3,h4⟩
   ·exact a3 _ h1 h3
   ·exact hX _ h1 h4
   ·exact hY _ h3 h2
   ·rcases hw with hw|hw
    ·rw[h1]at hw;cases hw
    ·rw[h3]at hw;cases hw
  ·rw[hx,hy]at hl;cases hl
 ·rcases hb with⟨y,hy,_⟩|⟨⟨c',hy⟩,a5,a2⟩
  ·rw[hx,hy]at hl;cases hl
  ·rcases hw with hw|hw
   ·rw[a4]at hw;cases hw
   ·rw[a5]at hw;cases hw
theorem Fg {A:Blk}{e:eS}(h:EvO Old A e){a:Touch}(ha:(MemAct.ofEvent e).touch? =some a):xH Old A a:=by
 rcases h with⟨x,h1,h3⟩|⟨m,h1,h2⟩|⟨c,rfl⟩
 ·obtain⟨a0,wr,sy⟩:=e
  simp only at h1 h3;subst h1
  cases wr<;>cases sy<;>(injection ha with ha;subst ha;exact .inl ⟨x,rfl,h3⟩)
 ·have:MemAct.ofEvent e= .mark m:=by
   obtain⟨a0,wr,sy⟩:=e;simp only at h1;subst h1
   cases wr<;>cases sy<;>rfl
  rw[this,h2.touch]at ha
  cases ha
 ·injection ha with ha
  subst ha;exact .inr ⟨⟨c,rfl⟩,rfl,rfl⟩
theorem uF {A:Blk}{es:Array eS}(h:∀e∈es,EvO Old A e)(d:Nat):deafBehind d es=d:=deafBehind_still (fun e he=>by
 rcases h e he with⟨x,h1,_⟩|⟨m,h1,h2⟩|⟨c,rfl⟩
 ·rw[h1];exact⟨by simp,by simp⟩
 ·rw[h1];exact⟨fun e=>h2.ne_disable (by injection e),fun e=>h2.ne_enable (by injection e)⟩
 ·exact⟨by simp,by simp⟩) d
theorem Mid.plain (h:Mid Old A0 AK k t)(hu:∀op∈u,op.act.touch? =none∧∀x,op.act≠ .mark x)(hr:∀a3,¬Race a3 (t++u)):Mid Old A0 AK k (t++u):=by
 refine⟨hr,fun i a ha hm=> ?_,fun i g hg h0 hk hc=> ?_,(ZG (fun op a0=>(hu op a0).2) t 0).trans h.hears0,(ZG (fun op a0=>(hu op a0).2) t k).trans h.hearsK⟩
 ·obtain⟨x,hx,a2⟩:=touch_of ha
  rcases getElem?_append_cases hx with⟨hi,a7⟩|⟨_,a8⟩
  ·rcases h.touch i a (by rw[touchAt_of a7];exact a2) hm with h1|h1|h1
   ·exact .inl ⟨h1.1.app u,h1.2.app u⟩
   ·exact .inr (.inl ⟨by simpa[lT,getElem?_append_old hi]using h1.1,h1.2⟩)
   ·exact .inr (.inr ⟨by simpa[lT,getElem?_append_old hi]using h1.1,h1.2⟩)
  ·rw[(hu x a8).1]at a2;cases a2
 ·obtain⟨x,hx,_⟩:=hc
  obtain⟨op,a0,a4⟩:=touch_of hx;rcases getElem?_append_cases a0 with⟨hi,a6⟩|⟨_,a1⟩
  ·obtain⟨j,hj,hb⟩:=h.over i g (by simpa[lT,getElem?_append_old hi]using hg) h0 hk ((counts_old hi).1 ⟨x,hx, ‹_›⟩)
   have a5:j<t.size:=by
    unfold lT at hj;obtain⟨y,hy,_⟩:=iY.1 hj;exact lt_size_of_getElem? hy
   exact⟨j,by simpa[lT,getElem?_append_old a5]using hj,hb_app u hb⟩
  ·rw[(hu op a1).1]at a4;cases a4
theorem qo {a0:Bool}(h:¬Race a0 t)(hu:∀op∈u,op.act.touch? =none):¬Race a0 (t++u):=by
 rintro⟨i,j,a2,⟨a,b,ha,hb,hc⟩,n1,n2⟩;obtain⟨x,hx,a4⟩:=touch_of ha;obtain⟨y,hy,a1⟩:=touch_of hb;rcases getElem?_append_cases hy with⟨hj,a5⟩|⟨hj,a6⟩
 ·have hi:i<t.size:=Nat.lt_trans a2 hj
  have a3 :t[i]? =some x:=by rw[←getElem?_append_old (u:=u) hi];exact hx
  exact h ⟨i,j,a2,⟨a,b,by simp[lU,a3,a4],by simp[lU,a5,a1],hc⟩,fun e=>n1 (hb_app u e),fun e=>n2 (hb_app u e)⟩
 ·rw[hu y a6]at a1;cases a1
theorem Mid.comm (h:Mid Old A0 AK k t)(hu:∀op∈u,op.act.touch? =none∧∀x,op.act≠ .mark x):Mid Old A0 AK k (t++u):=h.plain hu fun a0=>qo (h.clean a0) fun op a1=>(hu op a1).1
theorem Mid.step (h:Mid Old A0 AK k t){me:Nat}(a2:me=0∨me=k)(hk:k≠0)(hp:uZ Old A0' AK')(h0:∀b,A0 b→A0' b)(hK:∀b,AK b→AK' b){fn:FuncId}{pos:String}{es:Array eS}(he:∀e∈es,EvO Old (if me=0 then A0' else AK') e):Mid Old A0' AK' k (t++MemOp.ofEvents me fn pos es):=by
 have hg:∀op∈MemOp.ofEvents me fn pos es,op.g=me:=fun op a0=>by
  rw[ofEvents_eq]at a0;obtain⟨e,_,rfl⟩:=lJ.1 a0;rfl
 have ht:∀op∈MemOp.ofEvents me fn pos es,∀b,op.act.touch? =some b→xH Old (if me=0 then A0' else AK') b:=fun op a0 b hb=>by
  rw[ofEvents_eq]at a0;obtain⟨e,b3,rfl⟩:=lJ.1 a0;exact Fg (he e b3) hb
 refine⟨fun a7=>noRace_append (h.clean a7) hg fun i a ha op a0 b hb hc=> ?_,fun i a ha hm=> ?_,fun i g a9 a8 b1 hc=> ?_,?_,?_⟩
 ·have a1 :=ht op a0 b hb
  rcases h.touch i a ha hc.2.1 with h1|⟨h1,h2⟩|⟨h1,h2⟩
  ·rcases a2 with rfl|rfl
   ·exact h1.1
   ·exact h1.2
  ·by_cases hz:me=0
   ·obtain⟨z,a5,a6⟩:=iY.1 h1
    have:=knows_own a5;rw[a6]at this;rw[hz];exact this
   ·rw[if_neg hz]at a1
    exact(Kj hp.ok hp.o0 hp.oK (h2.mono h0) a1 hc).elim
  ·by_cases hz:me=0
   ·rw[if_pos hz]at a1
    exact(Kj (fun b h1 h2=>hp.ok b h2 h1) hp.oK hp.o0 (h2.mono hK) a1 hc).elim
   ·have b5:me=k:=a2.resolve_left hz
    obtain⟨z,a5,a6⟩:=iY.1 h1;have:=knows_own a5;rw[a6]at this;rw[b5];exact this
 ·obtain⟨x,hx,b2⟩:=touch_of ha
  rcases getElem?_append_cases hx with⟨hi,b7⟩|⟨_,a4⟩
  ·rcases h.touch i a (by rw[touchAt_of b7];exact b2) hm with h1|h1|h1
   ·exact .inl ⟨h1.1.app _,h1.2.app _⟩
   ·exact .inr (.inl ⟨by simpa[lT,getElem?_append_old hi]using h1.1,h1.2.mono h0⟩)
   ·exact .inr (.inr ⟨by simpa[lT,getElem?_append_old hi]using h1.1,h1.2.mono hK⟩)
  ·have a1 :=ht x a4 a b2
   by_cases hz:me=0
   ·rw[if_pos hz]at a1
    exact .inr (.inl ⟨by unfold lT;rw[hx];exact congrArg some ((hg x a4).trans hz),a1⟩)
   ·rw[if_neg hz]at a1
    exact .inr (.inr ⟨by unfold lT;rw[hx];exact congrArg some ((hg x a4).trans (a2.resolve_left hz)),a1⟩)
 ·obtain⟨x,hx,_⟩:=hc
  obtain⟨op,a0,b8⟩:=touch_of hx;rcases getElem?_append_cases a0 with⟨hi,b6⟩|⟨_,a3⟩
  ·obtain⟨j,hj,hb⟩:=h.over i g (by simpa[lT,getElem?_append_old hi]using a9) a8 b1 ((counts_old hi).1 ⟨x,hx, ‹_›⟩)
   have b4:j<t.size:=by
    unfold lT at hj;obtain⟨y,hy,_⟩:=iY.1 hj;exact lt_size_of_getElem? hy
   exact⟨j,by simpa[lT,getElem?_append_old b4]using hj,hb_app _ hb⟩
  ·exfalso
   have:g=me:=by
    have:=hg op a3;simpa[lT,a0,this]using a9.symm
   rcases a2 with e|e
   ·exact a8 (this.trans e)
   ·exact b1 (this.trans e)
 ·rcases a2 with rfl|rfl
  ·rw[Deaf_own,uF he];exact h.hears0
  ·rw[Deaf_other t hk _ hg];exact h.hears0
 ·rcases a2 with rfl|rfl
  ·rw[Deaf_other t (fun e=>hk e.symm) _ hg];exact h.hearsK
  ·rw[Deaf_own,uF he];exact h.hearsK
theorem Mid.mute (h:Mid Old A0 AK k t){g:Nat}(h0:g≠0)(hk:g≠k){fn:FuncId}{pos:String}{es:Array eS}(hm:∀e∈es,e.mute=true):Mid Old A0 AK k (t++MemOp.ofEvents g fn pos es):=by
 have hg:∀op∈MemOp.ofEvents g fn pos es,op.g=g∧op.act.touch? =none:=fun op a0=>by
  rw[ofEvents_eq]at a0;obtain⟨e,he,rfl⟩:=lJ.1 a0;exact⟨rfl,touch_mute (hm e he)⟩
 refine⟨fun a3=>qo (h.clean a3) fun op a0=>(hg op a0).2,fun i a ha hm=> ?_,fun i g' a6 a5 a8 hc=> ?_,?_,?_⟩
 ·obtain⟨x,hx,a2⟩:=touch_of ha
  rcases getElem?_append_cases hx with⟨hi,b1⟩|⟨_,b2⟩
  ·rcases h.touch i a (by rw[touchAt_of b1];exact a2) hm with h1|h1|h1
   ·exact .inl ⟨h1.1.app _,h1.2.app _⟩
   ·exact .inr (.inl ⟨by simpa[lT,getElem?_append_old hi]using h1.1,h1.2⟩)
   ·exact .inr (.inr ⟨by simpa[lT,getElem?_append_old hi]using h1.1,h1.2⟩)
  ·rw[(hg x b2).2]at a2;cases a2
 ·obtain⟨x,hx,_⟩:=hc
  obtain⟨op,a0,a4⟩:=touch_of hx;rcases getElem?_append_cases a0 with⟨hi,a9⟩|⟨_,a1⟩
  ·obtain⟨j,hj,hb⟩:=h.over i g' (by simpa[lT,getElem?_append_old hi]using a6) a5 a8 ((counts_old hi).1 ⟨x,hx, ‹_›⟩)
   have a7:j<t.size:=by
    unfold lT at hj;obtain⟨y,hy,_⟩:=iY.1 hj;exact lt_size_of_getElem? hy
   exact⟨j,by simpa[lT,getElem?_append_old a7]using hj,hb_app _ hb⟩
  ·rw[(hg op a1).2]at a4;cases a4
 ·rw[Deaf_other t h0 _ (fun op a0=>(hg op a0).1)];exact h.hears0
 ·rw[Deaf_other t hk _ (fun op a0=>(hg op a0).1)];exact h.hearsK
theorem UO {i:Nat}{op:MemOp}(h:t[i]? =some op):t.g? i=some op.g:=by unfold lT;rw[h];rfl
theorem o7 {i:Nat}{op:MemOp}(h:t[i]? =some op):t.act? i=some op.act:=by unfold lU;rw[h];rfl
theorem Mid.fork (hk:k≠0)(h:x9 t)(hd:Deaf t k=0)(fn a2 :FuncId)(pos a0 :String):Mid Old (fun _=>False) (fun _=>False) k (t++ #[{g:=0,fn:=fn,pos:=pos,act:= .go k},{g:=k,fn:=a2,pos:=a0,act:= .start}]):=by
 obtain⟨B,h⟩:=h;have hu:∀op∈(#[{g:=0,fn:=fn,pos:=pos,act:= .go k},{g:=k,fn:=a2,pos:=a0,act:= .start}]:Array MemOp),op.act.touch? =none∧∀x,op.act≠ .mark x:=by
  intro op a1;simp only[lV,iT,lA,or_false]at a1;rcases a1 with rfl|rfl
  all_goals
   exact⟨rfl,fun x h=>by cases h⟩
 have e0:(t++ #[({g:=0,fn:=fn,pos:=pos,act:= .go k}:MemOp),{g:=k,fn:=a2,pos:=a0,act:= .start}])[t.size]? =some {g:=0,fn:=fn,pos:=pos,act:= .go k}:=by simp
 have e1:(t++ #[({g:=0,fn:=fn,pos:=pos,act:= .go k}:MemOp),{g:=k,fn:=a2,pos:=a0,act:= .start}])[t.size+1]? =some {g:=k,fn:=a2,pos:=a0,act:= .start}:=by simp
 have d0:(t++ #[({g:=0,fn:=fn,pos:=pos,act:= .go k}:MemOp),{g:=k,fn:=a2,pos:=a0,act:= .start}]).deaf 0 t.size=0:=(deaf_old (iA _)).trans h.hears;have d1:(t++ #[({g:=0,fn:=fn,pos:=pos,act:= .go k}:MemOp),{g:=k,fn:=a2,pos:=a0,act:= .start}]).deaf k (t.size+1)=0:=by
  rw[deaf_succ e0];show deafStep k _ _=0;unfold deafStep;simp only;exact(deaf_old (iA _)).trans hd
 refine⟨fun a5=>qo (h.clean a5) fun op a1=>(hu op a1).1,fun i a ha hm=> ?_,fun i g hg h0 b4 hc=> ?_,(ZG (fun op a1=>(hu op a1).2) t 0).trans h.hears,(ZG (fun op a1=>(hu op a1).2) t k).trans hd⟩
 ·obtain⟨x,hx,a4⟩:=touch_of ha
  rcases getElem?_append_cases hx with⟨hi,b2⟩|⟨_,b3⟩
  ·have a6:Knows t 0 i:=(h.known i a (by rw[touchAt_of b2];exact a4) hm).resolve_right (fun x=>x.1)
   refine .inl ⟨a6.app _,?_⟩;have hb:HappensBefore _ i t.size:=a6.hb_new (u:= #[{g:=0,fn:=fn,pos:=pos,act:= .go k},{g:=k,fn:=a2,pos:=a0,act:= .start}]) (iA _) e0 rfl;have a8:HappensBefore _ t.size (t.size+1):= .single (.inr ⟨.spawn (child:=k) (o7 e0) (o7 e1) (UO e1),⟨0,UO e0,d0⟩,⟨k,UO e1,d1⟩⟩);exact⟨t.size+1,_,e1,rfl,.inr (hb.trans a8)⟩
  ·rw[(hu x b3).1]at a4;cases a4
 ·obtain⟨x,hx,_⟩:=hc
  obtain⟨op,a1,a7⟩:=touch_of hx;rcases getElem?_append_cases a1 with⟨hi,b1⟩|⟨_,a3⟩
  ·obtain⟨j,hj,hb⟩:=h.over i g (by simpa[lT,getElem?_append_old hi]using hg) h0 ((counts_old hi).1 ⟨x,hx, ‹_›⟩)
   have a9:j<t.size:=by
    unfold lT at hj;obtain⟨y,hy,_⟩:=iY.1 hj;exact lt_size_of_getElem? hy
   exact⟨j,by simpa[lT,getElem?_append_old a9]using hj,hb_app _ hb⟩
  ·rw[(hu op a3).1]at a7;cases a7
structure ol (Old A0 AK:Blk)(k c:Nat)(t:lD)(pc:Nat):Prop where
 mid:Mid Old A0 AK k t
 close:∃op,t[pc]? =some op∧op.g=k∧op.act= .close c
 heard:t.deaf k pc=0
 last:∀i op,t[i]? =some op→op.g=k→op.act.touch?≠none→i<pc
theorem ol.grow {c pc:Nat}(h:ol Old A0 AK k c t pc)(hm:Mid Old A0' AK k (t++u))(hu:∀op∈u,op.g=k→op.act.touch? =none):ol Old A0' AK k c (t++u) pc:=by
 obtain⟨op,h1,h2,h3⟩:=h.close;have hl:=lt_size_of_getElem? h1;refine⟨hm,⟨op,by rw[getElem?_append_old hl];exact h1,h2,h3⟩,(deaf_old (lW hl)).trans h.heard,fun i x hx hg ht=> ?_⟩;rcases getElem?_append_cases hx with⟨_,a0⟩|⟨_,a1⟩
 ·exact h.last i x a0 hg ht
 ·exact absurd (hu x a1 hg) ht
theorem ol.new {c:Nat}(h:Mid Old A0 AK k t)(hk:k≠0)(hp:uZ Old A0 AK){fn:FuncId}{pos:String}{es:Array eS}(he:∀e∈es,EvO Old AK e):∃pc,ol Old A0 AK k c (t++MemOp.ofEvents k fn pos (es.push ⟨.obj c,true,true⟩)) pc:=by
 have e1:MemOp.ofEvents k fn pos (es.push ⟨.obj c,true,true⟩)=MemOp.ofEvents k fn pos es++ #[{g:=k,fn:=fn,pos:=pos,act:= .close c}]:=by
  rw[ofEvents_push,Array.push_eq_append];rfl
 have h1:Mid Old A0 AK k (t++MemOp.ofEvents k fn pos es):=h.step (.inr rfl) hk hp (fun _ h=>h) (fun _ h=>h) (by rw[if_neg hk];exact he);have h2:Mid Old A0 AK k (t++MemOp.ofEvents k fn pos es++ #[{g:=k,fn:=fn,pos:=pos,act:= .close c}]):=h1.comm (by
  intro op a0;simp only[lV,iT,lA,or_false]at a0;subst a0;exact⟨rfl,fun x h=>by cases h⟩)
 refine⟨(t++MemOp.ofEvents k fn pos es).size,?_⟩;rw[e1,←lX];refine⟨h2,⟨{g:=k,fn:=fn,pos:=pos,act:= .close c},by simp,rfl,rfl⟩,(deaf_old (iA _)).trans h1.hearsK,fun i x hx hg ht=> ?_⟩;rcases getElem?_append_cases hx with⟨hi,_⟩|⟨_,a1⟩
 ·exact hi
 ·simp only[lV,iT,lA,or_false]at a1
  subst a1;exact absurd rfl ht
theorem ol.done {c pc:Nat}(h:ol Old A0 AK k c t pc)(hk:k≠0)(fn:FuncId)(pos:String):x9 (t++ #[{g:=0,fn:=fn,pos:=pos,act:= .recvClosed c}]):=by
 obtain⟨cl,a4,a5,a9⟩:=h.close;have a6:=lt_size_of_getElem? a4;have hm:Mid Old A0 AK k (t++ #[{g:=0,fn:=fn,pos:=pos,act:= .recvClosed c}]):=h.mid.comm (by
  intro op a2;simp only[lV,iT,lA,or_false]at a2;subst a2;exact⟨rfl,fun x h=>by cases h⟩)
 have e0:(t++ #[({g:=0,fn:=fn,pos:=pos,act:= .recvClosed c}:MemOp)])[t.size]? =some {g:=0,fn:=fn,pos:=pos,act:= .recvClosed c}:=by simp
 have e1:(t++ #[({g:=0,fn:=fn,pos:=pos,act:= .recvClosed c}:MemOp)])[pc]? =some cl:=by rw[getElem?_append_old a6];exact a4
 have b1:HappensBefore (t++ #[{g:=0,fn:=fn,pos:=pos,act:= .recvClosed c}]) pc t.size:= .single (.inr ⟨.closed (c:=c) (by rw[o7 e1,a9]) (o7 e0),⟨k,by rw[UO e1,a5],(deaf_old (lW a6)).trans h.heard⟩,⟨0,UO e0,(deaf_old (iA _)).trans h.mid.hears0⟩⟩);have a1:∀i x,(t++ #[({g:=0,fn:=fn,pos:=pos,act:= .recvClosed c}:MemOp)])[i]? =some x→x.g=k→x.act.touch?≠none→HappensBefore (t++ #[{g:=0,fn:=fn,pos:=pos,act:= .recvClosed c}]) i t.size:=by
  intro i x hx hg ht;rcases getElem?_append_cases hx with⟨hi,b3⟩|⟨_,a8⟩
  ·exact(hb_po (h.last i x b3 hg ht) hx e1 (hg.trans a5.symm)).trans b1
  ·simp only[lV,iT,lA,or_false]at a8
   subst a8;exact absurd hg.symm hk
 obtain⟨B,hB⟩:=uh (t++ #[({g:=0,fn:=fn,pos:=pos,act:= .recvClosed c}:MemOp)]).toList;refine⟨B,hm.clean,fun i a ha a3=> .inl ?_,fun i g hg h0 a0=> ?_,hm.hears0,fun op a2=>hB op (by simpa using a2)⟩
 ·obtain⟨x,hx,b4⟩:=touch_of ha
  rcases hm.touch i a ha a3 with h1|h1|h1
  ·exact h1.1
  ·have:=knows_own hx
   rw[UO hx]at h1;rw[Option.some.inj h1.1]at this;exact this
  ·rw[UO hx]at h1
   exact⟨t.size,_,e0,rfl,.inr (a1 i x hx (Option.some.inj h1.1) (by rw[b4];simp))⟩
 ·by_cases a7:g=k
  ·obtain⟨x,hx,a3,_⟩:=a0
   obtain⟨op,a2,b2⟩:=touch_of hx;rw[UO a2]at hg;exact⟨t.size,UO e0,a1 i op a2 ((Option.some.inj hg).trans a7) (by rw[b2];simp)⟩
  ·exact hm.over i g hg h0 a7 a0
end
open Go.ConcN (sumTo upd sumTo_upd upd_ne upd_same)
structure Env (P:eA)(Old:Blk)(c k:Nat)(A0 AK:Blk)(gs:Array eZ)(w:eX)(t:lD)(q:Nat→Nat):Prop where
 k0:k≠0
 ks:k<gs.size
 lv:∀(i:Nat) g,0<i→i≠k→gs[i]? =some g→QuitsD P (q i) (Deaf t i) g
 above:∀j,gs.size≤j→Deaf t j=0
 apart:uZ Old A0 AK
 s0:∀b,A0 b→b<w.heap.size
 sK:∀b,AK b→b<w.heap.size
 sO:∀b,Old b→b<w.heap.size
 nc:¬A0 c∧¬AK c∧¬Old c
 ch:∃s r tm,w.heap[c]? =some (.chan 0 #[] false s r tm)
 mid:Mid Old A0 AK k t
def zY (P:eA)(Q:eZ→eX→Prop)(gs:Array eZ)(w:eX)(sl:Option (Nat×Nat))(t:lD):Prop:=
 ∃(N:Nat) (gs' :Array eZ) (g' :eZ) (w' :eX) (sl' :Option (Nat×Nat)) (t' :lD) (q' :Nat→Nat),
  runNT P N (crowd gs w sl) t=(.next (crowd gs' w' sl'),t')∧gs'[0]? =some g' ∧Q g' w' ∧Leavers P t' gs' q' ∧x9 t'
def K7 (c:Nat)(o:eZ):Prop:=(o.status= .running∨o.status= .finished)∨(∃g z sh,o=parked g #[rcase c z] sh)∨∃g v z sh,o=parked g #[scase c v z] sh
section
variable {P:eA}{Old:Blk}{c k:Nat}{A0 AK:Blk}{gs:Array eZ}{w:eX}{t:lD}{q:Nat→Nat}{Q:eZ→eX→Prop}{sl:Option (Nat×Nat)}
theorem K7.woken {o x x' :eZ}(h:K7 c o)(hc:∃s r tm,w.heap[c]? =some (.chan 0 #[] false s r tm)):woken P x x' w o=o:=by
 obtain⟨s,r,tm,hc⟩:=hc;unfold Go.Conc.woken;split
 ·rcases h with h|⟨g,z,sh,rfl⟩|⟨g,v,z,sh,rfl⟩
  ·exact again_running _ h
  ·exact again_recv_open hc
  ·exact again_send_open hc
 ·rfl
theorem K7.awake {o:eZ}(h:K7 c o):awake o:=by
 rcases h with h|⟨g,z,sh,rfl⟩|⟨g,v,z,sh,rfl⟩
 ·exact awake_of (h.elim .inl fun x=> .inr (.inr x))
 all_goals
  exact awake_of (.inr (.inl rfl))
theorem qu {i:Nat}{x x' :eZ}{w' :eX}{es:Array eS}(hi:gs[i]? =some x)(h:stepG P (i==0) x w= .go x' w' es)(a0:∀(j:Nat) o,j≠i→gs[j]? =some o→K7 c o)(hc:∃s r tm,w'.heap[c]? =some (.chan 0 #[] false s r tm)):
  ∃gs',runT P (crowd gs w sl) i=(.next (crowd gs' w' sl),MemOp.ofEvents i x.frame.fn x.frame.place es)∧gs'.size=gs.size∧gs'[i]? =some x' ∧∀(j:Nat),j≠i→gs'[j]? =gs[j]? :=by
 refine⟨_,runT_crowd_go (P:=P) (sl:=sl) hi h,by simp,?_,fun j hj=> ?_⟩
 ·have:i<gs.size:=(lE.1 hi).1
  simp[this]
 ·rw[lH (fun e=>hj e.symm),lK]
  cases hx:gs[j]? with
  |none=>rfl
  |some o=>rw[lL,(a0 j o hj hx).woken hc]
theorem Env.calm (E:Env P Old c k A0 AK gs w t q){a b:eZ}(ha:gs[0]? =some a)(hb:gs[k]? =some b)(ca:K7 c a)(cb:K7 c b)(j:Nat)(o:eZ)(hj:gs[j]? =some o):K7 c o:=by
 by_cases h0:j=0
 ·subst h0;rw[ha]at hj;exact Option.some.inj hj▸ca
 ·by_cases hk:j=k
  ·subst hk;rw[hb]at hj;exact Option.some.inj hj▸cb
  ·exact .inl (E.lv j o (by omega) hk hj).status
theorem Env.at (E:Env P Old c k A0 AK gs w t q)(d:Nat):Env P Old c k A0 AK gs (w.at d) t q:=⟨E.k0,E.ks,E.lv,E.above,E.apart,E.s0,E.sK,E.sO,E.nc,E.ch,E.mid⟩
theorem Env.step0 (E:Env P Old c k A0 AK gs w t q){A0' :Blk}{gs' :Array eZ}{w' :eX}{es:Array eS}{fn:FuncId}{pos:String}(hG:yQ Old A0 A0' w w' es)(a2:gs'.size=gs.size)(a0:∀(j:Nat),j≠0→gs'[j]? =gs[j]?):
  Env P Old c k A0' AK gs' w' (t++MemOp.ofEvents 0 fn pos es) q:=by
 have hg:∀op∈MemOp.ofEvents 0 fn pos es,op.g=0:=xQ _ _ _
 obtain⟨s,r,tm,hc⟩:=E.ch;have a1:c<w.heap.size:=(lE.1 hc).1;have hA:∀b,A0' b→A0 b∨w.heap.size≤b:=fun b hb=>(hG.new b hb).imp id fun h=>h.1
 refine⟨E.k0,by rw[a2];exact E.ks,fun i x hi hk hx=> ?_,fun j hj=> ?_,⟨fun b hb hk=> ?_,fun b hb ho=> ?_,E.apart.oK⟩,fun b hb=> ?_,fun b hb=>lY (E.sK b hb) hG.size,fun b hb=>lY (E.sO b hb) hG.size,⟨fun h=> ?_,E.nc.2⟩,⟨s,r,tm,?_⟩,?_⟩
 ·rw[Deaf_other t (by omega) _ hg]
  exact E.lv i x hi hk (by rw[←a0 i (by omega)];exact hx)
 ·have:=E.ks
  rw[Deaf_other t (by omega) _ hg];exact E.above j (by omega)
 ·rcases hA b hb with h|h
  ·exact E.apart.ok b h hk
  ·have:=E.sK b hk;omega
 ·rcases hA b hb with h|h
  ·exact E.apart.o0 b h ho
  ·have:=E.sO b ho;omega
 ·rcases hG.new b hb with h|h
  ·exact lY (E.s0 b h) hG.size
  ·exact h.2
 ·rcases hA c h with h|h
  ·exact E.nc.1 h
  ·omega
 ·rw[hG.rest c a1 E.nc.1];exact hc
 ·refine E.mid.step (.inl rfl) E.k0 ⟨fun b hb hk=> ?_,fun b hb ho=> ?_,E.apart.oK⟩ hG.keep (fun _ h=>h) (by rw[if_pos rfl];exact hG.evs)
  ·rcases hA b hb with h|h
   ·exact E.apart.ok b h hk
   ·have:=E.sK b hk;omega
  ·rcases hA b hb with h|h
   ·exact E.apart.o0 b h ho
   ·have:=E.sO b ho;omega
theorem Env.stepK (E:Env P Old c k A0 AK gs w t q){AK' :Blk}{gs' :Array eZ}{w' :eX}{es:Array eS}{fn:FuncId}{pos:String}(hG:yQ Old AK AK' w w' es)(a3:gs'.size=gs.size)(a0:∀(j:Nat),j≠k→gs'[j]? =gs[j]?):
  Env P Old c k A0 AK' gs' w' (t++MemOp.ofEvents k fn pos es) q:=by
 have hg:∀op∈MemOp.ofEvents k fn pos es,op.g=k:=fun op a1=>by
  rw[ofEvents_eq]at a1;obtain⟨e,_,rfl⟩:=lJ.1 a1;rfl
 obtain⟨s,r,tm,hc⟩:=E.ch;have a2:c<w.heap.size:=(lE.1 hc).1;have hA:∀b,AK' b→AK b∨w.heap.size≤b:=fun b hb=>(hG.new b hb).imp id fun h=>h.1
 have hp:uZ Old A0 AK' :=⟨fun b hb hk=>by
   rcases hA b hk with h|h
   ·exact E.apart.ok b hb h
   ·have:=E.s0 b hb;omega,E.apart.o0,fun b hb ho=>by
   rcases hA b hb with h|h
   ·exact E.apart.oK b h ho
   ·have:=E.sO b ho;omega⟩
 refine⟨E.k0,by rw[a3];exact E.ks,fun i x hi hk hx=> ?_,fun j hj=> ?_,hp,fun b hb=>lY (E.s0 b hb) hG.size,fun b hb=> ?_,fun b hb=>lY (E.sO b hb) hG.size,⟨E.nc.1,fun h=> ?_,E.nc.2.2⟩,⟨s,r,tm,?_⟩,?_⟩
 ·rw[Deaf_other t (fun e=>hk e.symm) _ hg]
  exact E.lv i x hi hk (by rw[←a0 i hk];exact hx)
 ·have:=E.ks
  rw[Deaf_other t (by omega) _ hg];exact E.above j (by omega)
 ·rcases hG.new b hb with h|h
  ·exact lY (E.sK b h) hG.size
  ·exact h.2
 ·rcases hA c h with h|h
  ·exact E.nc.2.1 h
  ·omega
 ·rw[hG.rest c a2 E.nc.2.1];exact hc
 ·exact E.mid.step (.inr rfl) E.k0 hp (fun _ h=>h) hG.keep (by rw[if_neg E.k0];exact hG.evs)
theorem yQ.rel {A A' X:Blk}{w' :eX}{es:Array eS}(h:yQ Old A A' w w' es)(hX:∀b,X b→¬A b)(hO:∀b,A b→¬Old b)(sX:∀b,X b→b<w.heap.size)(sO:∀b,Old b→b<w.heap.size):Rel Old X w w' :=
 ⟨h.tape,h.os,h.output,h.size,fun b hb=>by
  rcases hb with hb|hb
  ·exact h.rest b (sX b hb) (hX b hb)
  ·exact h.rest b (sO b hb) (fun ha=>hO b ha hb)⟩
theorem Ga {i:Nat}{b:eZ}{n:Nat}(hb:gs[i]? =some b)(hi:0<i)(hr:b.status= .running)(hq:QuitsD P n (Deaf t i) b)(a0:∀(j:Nat) o,j≠i→gs[j]? =some o→K7 c o)(hc:∃s r tm,w.heap[c]? =some (.chan 0 #[] false s r tm)):
  ∃gs' b' es m,n=m+1∧runT P (crowd gs w sl) i=(.next (crowd gs' w sl),MemOp.ofEvents i b.frame.fn b.frame.place es)∧(∀e∈es,e.mute=true)∧gs'.size=gs.size∧gs'[i]? =some b' ∧QuitsD P m (deafBehind (Deaf t i) es) b' ∧∀(j:Nat),j≠i→gs'[j]? =gs[j]? :=by
 cases n with
 |zero=>rw[hq.1]at hr;cases hr
 |succ m=>
  rcases hq with⟨hf,_⟩|⟨_,g',es,hm,a1,a3⟩
  ·rw[hf]at hr;cases hr
  have a2:(i==0)=false:=by simp;omega
  obtain⟨gs',h1,h2,h3,h4⟩:=qu (P:=P) (sl:=sl) (c:=c) hb (by rw[a2];exact a1 w) a0 hc;exact⟨gs',g',es,m,rfl,h1,hm,h2,h3,a3,h4⟩
theorem Env.leaver (E:Env P Old c k A0 AK gs w t q){i:Nat}{b' :eZ}{gs' :Array eZ}{es:Array eS}{m:Nat}{fn:FuncId}{pos:String}(hi:0<i)(a5:i≠k)(hm:∀e∈es,e.mute=true)(a4:gs'.size=gs.size)(hg:gs'[i]? =some b')(hq:QuitsD P m (deafBehind (Deaf t i) es) b')(a1:∀(j:Nat),j≠i→gs'[j]? =gs[j]?):
  Env P Old c k A0 AK gs' w (t++MemOp.ofEvents i fn pos es) (upd q i m):=by
 have a2:∀op∈MemOp.ofEvents i fn pos es,op.g=i:=fun op a3=>by
  rw[ofEvents_eq]at a3;obtain⟨e,_,rfl⟩:=lJ.1 a3;rfl
 have a7:i<gs.size:=by rw[←a4];exact(lE.1 hg).1
 refine⟨E.k0,by rw[a4];exact E.ks,fun j x hj a6 hx=> ?_,fun j hj=> ?_,E.apart,E.s0,E.sK,E.sO,E.nc,E.ch,E.mid.mute (by omega) a5 hm⟩
 ·by_cases a0:j=i
  ·subst a0
   rw[hg]at hx;obtain rfl:=Option.some.inj hx;rw[upd_same,Deaf_own];exact hq
  ·rw[upd_ne _ _ a0,Deaf_other t (fun e=>a0 e.symm) _ a2]
   exact E.lv j x hj a6 (by rw[←a1 j a0];exact hx)
 ·rw[Deaf_other t (by omega) _ a2]
  exact E.above j (by omega)
end
open Go.ConcN (sumTo upd sumTo_upd upd_ne upd_same)
def Zu:Blk:=fun _=>False
section
variable {P:eA}{Old:Blk}{c k:Nat}{z:eB}{Fin:Blk→eZ→eX→Prop}{A0 AK:Blk}{gs:Array eZ}{w:eX}{t:lD}{q:Nat→Nat}{Q:eZ→eX→Prop}{sl:Option (Nat×Nat)}
theorem Rel.chan {A:Blk}(hA:¬A c)(hO:¬Old c)(w:eX)(cap:Nat)(a0:Array eB)(cl:Bool)(s r:Nat)(tm:Bool):Rel Old A w (w.setChan c cap a0 cl s r tm):=⟨rfl,rfl,rfl,by simp[lZ],fun b hb=>by
 have a1:c≠b:=by rintro rfl;exact hb.elim hA hO
 simp[lZ,lH a1]⟩
theorem Uf (w:eX)(s r:Nat)(tm:Bool):w.shut c s r tm=w.setChan c 0 #[] true s r tm:=rfl
theorem g8 {w:eX}(h:c<w.heap.size)(cap:Nat)(a0:Array eB)(cl:Bool)(s r:Nat)(tm:Bool):(w.setChan c cap a0 cl s r tm).heap[c]? =some (.chan cap a0 cl s r tm):=by simp[lZ,h]
theorem yQ.none {A A' :Blk}{w' :eX}{es:Array eS}(h:yQ Old A A' w w' es)(hO:∀b,A b→¬Old b)(sO:∀b,Old b→b<w.heap.size):Rel Old Zu w w' :=h.rel (fun _ e=>e.elim) hO (fun _ e=>e.elim) sO
theorem zY.step {a1:Array eZ}{w1:eX}{a2:Option (Nat×Nat)}{ops:Array MemOp}(a8:stepT P (crowd gs w sl)=(.next (crowd a1 w1 a2),ops))(h:zY P Q a1 w1 a2 (t++ops)):zY P Q gs w sl t:=by
 obtain⟨N,gs',g',w',a0,t',q',a7,a3,a6,a4,a5⟩:=h;refine⟨N+1,gs',g',w',a0,t',q',?_,a3,a6,a4,a5⟩;simp only[runNT,a8];exact a7
theorem Env.turn (E:Env P Old c k A0 AK gs w t q){a b:eZ}(h0:gs[0]? =some a)(hk:gs[k]? =some b)(ca:K7 c a)(cb:K7 c b)(hr:a.status= .running∨b.status= .running):
  ∃d a1,(a.status= .running∧stepT P (crowd gs w sl)=runT P (crowd gs (w.at d) a1) 0)∨(b.status= .running∧stepT P (crowd gs w sl)=runT P (crowd gs (w.at d) a1) k)∨
   ∃gs' ops q',stepT P (crowd gs w sl)=(.next (crowd gs' (w.at d) a1),ops)∧Env P Old c k A0 AK gs' (w.at d) (t++ops) q' ∧gs'[0]? =some a∧gs'[k]? =some b∧sumTo gs'.size q' <sumTo gs.size q:=by
 have a2:=E.calm h0 hk ca cb;have a8:∀x∈gs,awake x:=by
  intro x hx;obtain⟨i,hi,rfl⟩:=lF.1 hx;exact(a2 i _ (lI hi)).awake
 obtain⟨i,x,d,a1,hi,hx,a5⟩:=crowd_pick (P:=P) (w:=w) (sl:=sl) a8 (hr.elim (fun h=>⟨0,a,h0,h⟩) (fun h=>⟨k,b,hk,h⟩));refine⟨d,a1,?_⟩;by_cases a6:i=0
 ·subst a6
  rw[h0]at hi;obtain rfl:=Option.some.inj hi;exact .inl ⟨hx,a5⟩
 ·by_cases a3:i=k
  ·subst a3
   rw[hk]at hi;obtain rfl:=Option.some.inj hi;exact .inr (.inl ⟨hx,a5⟩)
  ·have hq:=E.lv i x (by omega) a3 hi
   obtain⟨gs',b',es,m,hn,a4,hm,a7,a9,b2,a0⟩:=Ga (P:=P) (sl:=a1) (w:=w.at d) (c:=c) hi (by omega) hx hq (fun j o _ hj=>a2 j o hj) (E.at d).ch;have b1:i<gs.size:=(lE.1 hi).1;have b3:sumTo gs.size (upd q i m)+(m+1)=sumTo gs.size q+m:=by
    have:=sumTo_upd q m id b1;simpa[hn]using this
   refine .inr (.inr ⟨gs',_,upd q i m,a5.trans a4,(E.at d).leaver (by omega) a3 hm a7 a9 b2 a0,by rw[a0 0 (fun e=>a6 e.symm)];exact h0,by rw[a0 k (fun e=>a3 e.symm)];exact hk,?_⟩);rw[a7];omega
theorem Env.comm (E:Env P Old c k A0 AK gs w t q){gs' :Array eZ}{u:Array MemOp}(hu:∀op∈u,op.act.touch? =none∧∀x,op.act≠ .mark x)(a3:gs'.size=gs.size)(a1:∀(j:Nat),j≠0→j≠k→gs'[j]? =gs[j]?)(s r:Nat)(tm:Bool):
  Env P Old c k A0 AK gs' (w.setChan c 0 #[] false s r tm) (t++u) q:=by
 obtain⟨s0,r0,a4,hc⟩:=E.ch;have a2:c<w.heap.size:=(lE.1 hc).1;have hs:(w.setChan c 0 #[] false s r tm).heap.size=w.heap.size:=by simp[lZ]
 refine⟨E.k0,by rw[a3];exact E.ks,fun i x hi hk hx=> ?_,fun j hj=> ?_,E.apart,fun b hb=>by rw[hs];exact E.s0 b hb,fun b hb=>by rw[hs];exact E.sK b hb,fun b hb=>by rw[hs];exact E.sO b hb,E.nc,⟨s,r,tm,g8 a2 ..⟩,E.mid.comm hu⟩
 ·rw[ZG (fun op a0=>(hu op a0).2) t i]
  exact E.lv i x hi hk (by rw[←a1 i (by omega) hk];exact hx)
 ·rw[ZG (fun op a0=>(hu op a0).2) t j]
  exact E.above j (by omega)
theorem yQ.look {A:Blk}(w:eX){es:Array eS}(h:∀e∈es,EvO Old A e):yQ Old A A w w es:=⟨rfl,rfl,rfl,iA _,fun _ h=>h,fun _ h=> .inl h,fun _ _ _=>rfl,h⟩
theorem OZ {i j:Nat}{f1 f2:FuncId}{p1 p2:String}{s r cap:Nat}:∀op∈(#[{g:=i,fn:=f1,pos:=p1,act:= .send c s},{g:=j,fn:=f2,pos:=p2,act:= .recv c r cap},{g:=i,fn:=f1,pos:=p1,act:= .sendDone c s},{g:=j,fn:=f2,pos:=p2,act:= .recvDone c r}]:Array MemOp),op.act.touch? =none∧∀x,op.act≠ .mark x:=by
 intro op a0;simp only[lV,iT,lA,or_false]at a0;rcases a0 with rfl|rfl|rfl|rfl<;>exact⟨rfl,fun x h=>by cases h⟩
theorem Q4 {i:Nat}{a0:Bool}(h:∀(j:Nat) o,j≠i→gs[j]? =some o→o.status≠ .blocked):partners (gs.setIfInBounds i ph) c a0=[]:=by
 refine partners_nil fun j g hj=> ?_
 rcases getElem?_stand gs i j g hj with⟨_,rfl⟩|⟨a1,hg⟩
 ·exact offersAt_ph _ _
 ·exact offersAt_of_not_blocked (h j g a1 hg) _ _
theorem Kg {i j:Nat}{a0:Bool}{x:eZ}(a1:j≠i)(hj:gs[j]? =some x)(hx:offersAt x c a0=[0])(h:∀(m:Nat) o,m≠i→m≠j→gs[m]? =some o→o.status≠ .blocked):partners (gs.setIfInBounds i ph) c a0=[(j,0)]:=by
 rw[partners_one (stand_get a1 hj) (fun m y hm hy=> ?_),hx]
 ·rfl
 ·rcases getElem?_stand gs i m y hy with⟨_,rfl⟩|⟨a2,hg⟩
  ·exact offersAt_ph _ _
  ·exact offersAt_of_not_blocked (h m y a2 hm hg) _ _
theorem Env.free (E:Env P Old c k A0 AK gs w t q)(j:Nat)(o:eZ)(h0:j≠0)(hk:j≠k)(hj:gs[j]? =some o):o.status≠ .blocked:=by
 rcases(E.lv j o (by omega) hk hj).status with h|h<;>rw[h]<;>intro e<;>cases e
structure Vc (P:eA)(Old:Blk)(c k:Nat)(A0 AK:Blk)(gs:Array eZ)(w:eX)(t:lD)(pc:Nat)(q:Nat→Nat):Prop where
 k0:k≠0
 ks:k<gs.size
 lv:∀(i:Nat) g,0<i→i≠k→gs[i]? =some g→QuitsD P (q i) (Deaf t i) g
 lk:∃g,gs[k]? =some g∧QuitsIn P (q k) g
 above:∀j,gs.size≤j→Deaf t j=0
 apart:uZ Old A0 AK
 s0:∀b,A0 b→b<w.heap.size
 sK:∀b,AK b→b<w.heap.size
 sO:∀b,Old b→b<w.heap.size
 nc:¬A0 c∧¬AK c∧¬Old c
 ch:∃s r tm,w.heap[c]? =some (.chan 0 #[] true s r tm)
 mid:ol Old A0 AK k c t pc
theorem Vc.at {pc:Nat}(E:Vc P Old c k A0 AK gs w t pc q)(d:Nat):Vc P Old c k A0 AK gs (w.at d) t pc q:=⟨E.k0,E.ks,E.lv,E.lk,E.above,E.apart,E.s0,E.sK,E.sO,E.nc,E.ch,E.mid⟩
theorem Vc.leavers {pc:Nat}(E:Vc P Old c k A0 AK gs w t pc q):Leavers P t gs q:=⟨fun i g hi hg=>by
 by_cases hk:i=k
 ·subst hk
  obtain⟨x,hx,hq⟩:=E.lk;rw[hx]at hg;obtain rfl:=Option.some.inj hg;rw[E.mid.mid.hearsK];exact QuitsD.of_quitsIn hq
 ·exact E.lv i g hi hk hg,E.above⟩
theorem Vc.step0 {pc:Nat}(E:Vc P Old c k A0 AK gs w t pc q){A0' :Blk}{gs' :Array eZ}{w' :eX}{es:Array eS}{fn:FuncId}{pos:String}(hG:yQ Old A0 A0' w w' es)(a5:gs'.size=gs.size)(a0:∀(j:Nat),j≠0→gs'[j]? =gs[j]?):
  Vc P Old c k A0' AK gs' w' (t++MemOp.ofEvents 0 fn pos es) pc q:=by
 have hg:∀op∈MemOp.ofEvents 0 fn pos es,op.g=0:=xQ _ _ _
 obtain⟨s,r,tm,hc⟩:=E.ch;have a1:c<w.heap.size:=(lE.1 hc).1;have hA:∀b,A0' b→A0 b∨w.heap.size≤b:=fun b hb=>(hG.new b hb).imp id fun h=>h.1
 have hp:uZ Old A0' AK:=⟨fun b hb hk=>by
   rcases hA b hb with h|h
   ·exact E.apart.ok b h hk
   ·have:=E.sK b hk;omega,fun b hb ho=>by
   rcases hA b hb with h|h
   ·exact E.apart.o0 b h ho
   ·have:=E.sO b ho;omega,E.apart.oK⟩
 obtain⟨gk,a2,a4⟩:=E.lk;refine⟨E.k0,by rw[a5];exact E.ks,fun i x hi hk hx=> ?_,⟨gk,by rw[a0 k E.k0];exact a2,a4⟩,fun j hj=> ?_,hp,fun b hb=> ?_,fun b hb=>lY (E.sK b hb) hG.size,fun b hb=>lY (E.sO b hb) hG.size,⟨fun h=> ?_,E.nc.2⟩,⟨s,r,tm,?_⟩,?_⟩
 ·rw[Deaf_other t (by omega) _ hg]
  exact E.lv i x hi hk (by rw[←a0 i (by omega)];exact hx)
 ·have:=E.ks
  rw[Deaf_other t (by omega) _ hg];exact E.above j (by omega)
 ·rcases hG.new b hb with h|h
  ·exact lY (E.s0 b h) hG.size
  ·exact h.2
 ·rcases hA c h with h|h
  ·exact E.nc.1 h
  ·omega
 ·rw[hG.rest c a1 E.nc.1];exact hc
 ·exact E.mid.grow (E.mid.mid.step (.inl rfl) E.k0 hp hG.keep (fun _ h=>h) (by rw[if_pos rfl];exact hG.evs)) (fun op a3 hk=>absurd ((hg op a3).symm.trans hk) (fun e=>E.k0 e.symm))
theorem Vc.leaver {pc:Nat}(E:Vc P Old c k A0 AK gs w t pc q){a x:eZ}(h0:gs[0]? =some a)(ha:a.status= .running){i:Nat}(hi:gs[i]? =some x)(a6:i≠0)(hx:x.status= .running):
  ∃gs' ops q',runT P (crowd gs w sl) i=(.next (crowd gs' w sl),ops)∧Vc P Old c k A0 AK gs' w (t++ops) pc q' ∧gs'[0]? =some a∧sumTo gs'.size q' <sumTo gs.size q:=by
 have b1:i<gs.size:=(lE.1 hi).1;have b7:(i==0)=false:=by simp;omega
 have b9:∀(j:Nat) o,0<j→gs[j]? =some o→o.status= .running∨o.status= .finished:=fun j o hj ho=>yC E.leavers j o hj ho
 have a8:∀(y y' :eZ) (w' :eX) (j:Nat),j≠i→(gs.map (woken P y y' w'))[j]? =gs[j]? :=by
  intro y y' w' j hj;rw[lK]
  cases ho:gs[j]? with
  |none=>rfl
  |some o=>
   rw[lL];congr 1
   unfold woken;split
   ·refine again_running _ ?_
    rcases lG j with rfl|b4
    ·rw[h0]at ho;obtain rfl:=Option.some.inj ho;exact .inl ha
    ·exact b9 j o b4 ho
   ·rfl
 by_cases a1:i=k
 ·subst a1
  obtain⟨gk,a9,a5⟩:=E.lk;rw[hi]at a9;obtain rfl:=Option.some.inj a9
  cases a2:q i with
  |zero=>rw[a2]at a5;rw[show x.status= .finished from a5]at hx;cases hx
  |succ m=>
   rw[a2]at a5;rcases a5 with hf|⟨_,x',a3,b5⟩
   ·rw[hf]at hx;cases hx
   have a0:=runT_crowd_go (P:=P) (sl:=sl) (i:=i) (w:=w) hi (by rw[b7];exact a3 w);have b6:sumTo gs.size (upd q i m)+(m+1)=sumTo gs.size q+m:=by
    have:=sumTo_upd q m id b1;simpa[a2]using this
   have he:MemOp.ofEvents i x.frame.fn x.frame.place #[]= #[]:=rfl;rw[he]at a0;refine⟨_,#[],upd q i m,a0,?_,?_,?_⟩
   ·rw[Array.append_empty]
    refine⟨E.k0,by simpa using E.ks,fun j y hj a4 hy=> ?_,⟨x',by rw[mA (by simpa using b1)],by rw[upd_same];exact b5⟩,fun j hj=>E.above j (by simpa using hj),E.apart,E.s0,E.sK,E.sO,E.nc,E.ch,E.mid⟩;rw[lH (fun e=>a4 e.symm),a8 _ _ _ j a4]at hy;rw[upd_ne _ _ a4];exact E.lv j y hj a4 hy
   ·rw[lH a6,a8 _ _ _ 0 (fun e=>a6 e.symm)];exact h0
   ·simp only[mB,mC];omega
 ·have hq:=E.lv i x (by omega) a1 hi
  cases a2:q i with
  |zero=>rw[a2]at hq;rw[hq.1]at hx;cases hx
  |succ m=>
   rw[a2]at hq;rcases hq with⟨hf,_⟩|⟨_,x',es,hm,a3,b5⟩
   ·rw[hf]at hx;cases hx
   have a0:=runT_crowd_go (P:=P) (sl:=sl) (i:=i) (w:=w) hi (by rw[b7];exact a3 w);have b6:sumTo gs.size (upd q i m)+(m+1)=sumTo gs.size q+m:=by
    have:=sumTo_upd q m id b1;simpa[a2]using this
   have b3:∀op∈MemOp.ofEvents i x.frame.fn x.frame.place es,op.g=i:=fun op b2=>by
    rw[ofEvents_eq]at b2;obtain⟨e,_,rfl⟩:=lJ.1 b2;rfl
   obtain⟨gk,a9,a5⟩:=E.lk;refine⟨_,_,upd q i m,a0,?_,?_,?_⟩
   ·refine⟨E.k0,by simpa using E.ks,fun j y hj a4 hy=> ?_,⟨gk,by rw[lH a1,a8 _ _ _ k (fun e=>a1 e.symm)];exact a9,by rw[upd_ne _ _ (fun e=>a1 e.symm)];exact a5⟩,fun j hj=> ?_,E.apart,E.s0,E.sK,E.sO,E.nc,E.ch,E.mid.grow (E.mid.mid.mute a6 a1 hm) (fun op b2 hk=>absurd ((b3 op b2).symm.trans hk) a1)⟩
    ·by_cases a7:j=i
     ·subst a7
      rw[mA (by simpa using b1)]at hy;obtain rfl:=Option.some.inj hy;rw[upd_same,Deaf_own];exact b5
     ·rw[lH (fun e=>a7 e.symm),a8 _ _ _ j a7]at hy
      rw[upd_ne _ _ a7,Deaf_other t (fun e=>a7 e.symm) _ b3];exact E.lv j y hj a4 hy
    ·have b8 :gs.size≤j:=by simpa using hj
     rw[Deaf_other t (by omega) _ b3];exact E.above j b8
   ·rw[lH a6,a8 _ _ _ 0 (fun e=>a6 e.symm)];exact h0
   ·simp only[mB,mC];omega
def End (Old:Blk)(Fin:Blk→eZ→eX→Prop)(w0:eX)(g:eZ)(w:eX):Prop:=(∃A,Fin A g w)∧Rel Old Zu w0 w
theorem Jg {w0:eX}{a:eZ}{wb:eX}(h:OW P true Old (Yr P Old c z Fin []) A0 a wb):∀(w:eX) (gs:Array eZ) (sl:Option (Nat×Nat)) (t:lD) (pc:Nat) (q:Nat→Nat),Rel Old A0 wb w→Rel Old Zu w0 w→Vc P Old c k A0 AK gs w t pc q→gs[0]? =some a→
  zY P (End Old Fin w0) gs w sl t:=by
 induction h using OW.ind with
 | @stop A a wb b4=>
  suffices H:∀(M:Nat) (w:eX) (gs:Array eZ) (sl:Option (Nat×Nat)) (t:lD) (pc:Nat) (q:Nat→Nat),sumTo gs.size q<M→Rel Old A wb w→Rel Old Zu w0 w→Vc P Old c k A AK gs w t pc q→gs[0]? =some a→zY P (End Old Fin w0) gs w sl t by
   intro w gs sl t pc q hr a1 E h0;exact H _ w gs sl t pc q (lR _) hr a1 E h0
  intro M;induction M with
  |zero=>exact fun w gs sl t pc q hM=>absurd hM (mD _)
  |succ M ih=>
   intro w gs sl t pc q hM hr a1 E h0;have a5:a.status= .running:=(b4 w hr).run;have a9:∀x∈gs,awake x:=by
    intro x hx;obtain⟨i,hi,rfl⟩:=lF.1 hx;rcases lG i with rfl|a3
    ·have:gs[0]=a:=by simpa[lI hi]using h0
     rw[this];exact awake_of (.inl a5)
    ·exact awake_of ((yC E.leavers i _ a3 (lI hi)).elim .inl fun x=> .inr (.inr x))
   obtain⟨i,x,d,a2,hi,hx,a0⟩:=crowd_pick (P:=P) (w:=w) (sl:=sl) a9 ⟨0,a,h0,a5⟩;by_cases a6:i=0
   ·subst a6
    rw[h0]at hi;obtain rfl:=Option.some.inj hi;obtain⟨⟨_,es,b5,b6⟩,b1⟩:=b4 (w.at d) (hr.trans (Rel.at _ _ _ _));obtain⟨s,r,tm,hc⟩:=(E.at d).ch;have hp:partners (gs.setIfInBounds 0 ph) c true=[]:=Q4 fun j o hj ho=>by
     rcases yC E.leavers j o (by omega) ho with h|h<;>rw[h]<;>intro e<;>cases e
    have a4:=crowd_recv_closed (P:=P) (sl:=a2) h0 b5 hc hp;have E1:=(E.at d).step0 (gs' :=gs) (fn:=a.frame.fn) (pos:=a.frame.place) (yQ.look (w.at d) b6) rfl (fun _ _=>rfl);refine zY.step (a0.trans a4) ?_;rw[←lX];refine⟨0,_,_,w.at d,a2,_,q,rfl,by rw[mA (lE.1 h0).1],⟨⟨A,?_⟩,a1.trans (Rel.at _ _ _ _)⟩,⟨fun j y hj hy=> ?_,fun j hj=> ?_⟩,E1.mid.done E.k0 _ _⟩
    ·have:=b1 (w.at d) (Rel.refl _ _ _)
     rw[finishComm_recv];exact this
    ·rw[ZG (by intro op a7 x hx;simp only[lV,iT,lA,or_false]at a7;subst a7;cases hx)]
     rw[lH (by omega)]at hy;exact E1.leavers.old j y hj hy
    ·rw[ZG (by intro op a7 x hx;simp only[lV,iT,lA,or_false]at a7;subst a7;cases hx)]
     exact E1.leavers.above j (by simpa using hj)
   ·obtain⟨gs',ops,q',a4,E',a8,b8⟩:=(E.at d).leaver (sl:=a2) h0 a5 hi a6 hx
    exact zY.step (a0.trans a4) (ih _ gs' a2 _ pc q' (by omega) (hr.trans (Rel.at _ _ _ _)) (a1.trans (Rel.at _ _ _ _)) E' a8)
 | @step A a wb f v e B hs h1 _ b9=>
  suffices H:∀(M:Nat) (w:eX) (gs:Array eZ) (sl:Option (Nat×Nat)) (t:lD) (pc:Nat) (q:Nat→Nat),sumTo gs.size q<M→Rel Old A wb w→Rel Old Zu w0 w→Vc P Old c k A AK gs w t pc q→gs[0]? =some a→zY P (End Old Fin w0) gs w sl t by
   intro w gs sl t pc q hr a1 E h0;exact H _ w gs sl t pc q (lR _) hr a1 E h0
  intro M;induction M with
  |zero=>exact fun w gs sl t pc q hM=>absurd hM (mD _)
  |succ M ih=>
   intro w gs sl t pc q hM hr a1 E h0;have a9:∀x∈gs,awake x:=by
    intro x hx;obtain⟨i,hi,rfl⟩:=lF.1 hx;rcases lG i with rfl|a3
    ·have:gs[0]=a:=by simpa[lI hi]using h0
     rw[this];exact awake_of (.inl hs)
    ·exact awake_of ((yC E.leavers i _ a3 (lI hi)).elim .inl fun x=> .inr (.inr x))
   obtain⟨i,x,d,a2,hi,hx,a0⟩:=crowd_pick (P:=P) (w:=w) (sl:=sl) a9 ⟨0,a,h0,hs⟩;by_cases a6:i=0
   ·subst a6
    rw[h0]at hi;obtain rfl:=Option.some.inj hi;have b3:=hr.trans (Rel.at Old A w d);obtain⟨b7,hG⟩:=h1 (w.at d) b3;have a4:=runT_crowd_go (P:=P) (sl:=a2) (i:=0) (w:=w.at d) h0 b7;have b2:∀(j:Nat),j≠0→((gs.map (woken P a (f (w.at d)) (v (w.at d)))).setIfInBounds 0 (f (w.at d)))[j]? =gs[j]? :=by
     intro j hj;rw[lH (fun e=>hj e.symm),lK]
     cases ho:gs[j]? with
     |none=>rfl
     |some o=>
      rw[lL,woken_quitsD (E.leavers.old j o (by omega) ho)]
    refine zY.step (a0.trans a4) (b9 (w.at d) b3 _ _ a2 _ pc q (Rel.refl _ _ _) ((a1.trans (Rel.at _ _ _ _)).trans (hG.none E.apart.o0 E.sO)) ((E.at d).step0 hG (by simp) b2) ?_);rw[mA (by simpa using(lE.1 h0).1)]
   ·obtain⟨gs',ops,q',a4,E',a8,b8⟩:=(E.at d).leaver (sl:=a2) h0 hs hi a6 hx
    exact zY.step (a0.trans a4) (ih _ gs' a2 _ pc q' (by omega) (hr.trans (Rel.at _ _ _ _)) (a1.trans (Rel.at _ _ _ _)) E' a8)
end
open Go.ConcN (sumTo upd sumTo_upd upd_ne upd_same)
section
variable {P:eA}{Old:Blk}{c k:Nat}{z:eB}{Fin:Blk→eZ→eX→Prop}{A0 AK:Blk}{gs:Array eZ}{w w0:eX}{t:lD}{q:Nat→Nat}{sl:Option (Nat×Nat)}
def Is0 (P:eA)(Old:Blk)(c:Nat)(z:eB)(Fin:Blk→eZ→eX→Prop)(vs:List eB)(A0:Blk)(a:eZ)(w:eX):Prop:=
 (a.status= .running∧OW P true Old (Yr P Old c z Fin vs) A0 a w)∨∃g',a=parked (core g') #[rcase c z] (.recv true)∧∀w1,Rel Old A0 w w1→Yr P Old c z Fin vs A0 g' w1
theorem uP (h:k≠0):(k==0)=false:=by simpa using h
theorem OR (E:Env P Old c k A0 AK gs w t q){a b:eZ}(h0:gs[0]? =some a)(hk:gs[k]? =some b)(a5:CB P Old c AK b w)(b4:Rel Old Zu w0 w)(ha:Is0 P Old c z Fin [] A0 a w):
  ∃a7 w1 ops,runT P (crowd gs w sl) k=(.next (crowd a7 w1 sl),ops)∧zY P (End Old Fin w0) a7 w1 sl (t++ops):=by
 obtain⟨_,c8,g2,es,n,a0,b8,hq⟩:=a5;obtain⟨s,r,tm,hc⟩:=E.ch;have a5:c<w.heap.size:=(lE.1 hc).1;have a1:=runT_crowd_go (P:=P) (sl:=sl) (i:=k) (w:=w) hk (by rw[uP E.k0];exact a0 s r tm hc);rw[Uf]at a1;have b5:=g8 (w:=w) a5 0 #[] true s r tm;generalize hw:w.setChan c 0 #[] true s r tm=w1 at*;have a4:∀A:Blk,¬A c→Rel Old A w w1:=fun A hA=>by rw[←hw];exact Rel.chan hA E.nc.2.2 ..
 have a6:w1.heap.size=w.heap.size:=by rw[←hw];simp[lZ]
 refine⟨_,_,_,a1,?_⟩;obtain⟨pc,c9⟩:=ol.new (c:=c) (fn:=b.frame.fn) (pos:=b.frame.place) E.mid E.k0 E.apart b8;have c6:g2.status= .running∨g2.status= .finished:=hq.status;have d3:∀o:eZ,woken P b g2 w1 o=o.again w1:=fun o=>by
  unfold woken;rw[if_pos];rcases c6 with h|h<;>simp[c8,h]
 have a9:=E.k0;have b1:=E.ks;have a8:∀op∈MemOp.ofEvents k b.frame.fn b.frame.place (es.push ⟨.obj c,true,true⟩),op.g=k:=fun op b2=>by
  rw[ofEvents_eq]at b2;obtain⟨e,_,rfl⟩:=lJ.1 b2;rfl
 have EC:Vc P Old c k A0 AK ((gs.map (woken P b g2 w1)).setIfInBounds k g2) w1 (t++MemOp.ofEvents k b.frame.fn b.frame.place (es.push ⟨.obj c,true,true⟩)) pc (upd q k n):=by
  refine⟨a9,by simpa using b1,fun i x hi a3 hx=> ?_,⟨g2,by rw[mA (by simpa using b1)],by rw[upd_same];exact hq⟩,fun j hj=> ?_,E.apart,fun b hb=>by rw[a6];exact E.s0 b hb,fun b hb=>by rw[a6];exact E.sK b hb,fun b hb=>by rw[a6];exact E.sO b hb,E.nc,⟨s,r,tm,b5⟩,c9⟩
  ·rw[lH (fun e=>a3 e.symm),lK]at hx
   obtain⟨y,hy,rfl⟩:=iY.1 hx;have b3:=E.lv i y hi a3 hy;rw[woken_quitsD b3,upd_ne _ _ a3,Deaf_other t (fun e=>a3 e.symm) _ a8];exact b3
  ·have c7 :gs.size≤j:=by simpa using hj
   rw[Deaf_other t (by omega) _ a8];exact E.above j c7
 have a2 :((gs.map (woken P b g2 w1)).setIfInBounds k g2)[0]? =some (a.again w1):=by
  rw[lH a9,lK,h0,lL,d3]
 rcases ha with⟨b7,b6⟩|⟨g',rfl,b9⟩
 ·rw[again_running _ (.inl b7)]at a2
  exact Jg b6 w1 _ sl _ pc _ (a4 A0 E.nc.1) (b4.trans (a4 Zu (fun e=>e))) EC a2
 ·rw[again_recv_closed b5]at a2
  exact Jg (wb:=w1) (.stop fun w2 h2=>(b9 w2 ((a4 A0 E.nc.1).trans h2)).again) w1 _ sl _ pc _ (Rel.refl _ _ _) (b4.trans (a4 Zu (fun e=>e))) EC a2
def FG (P:eA)(Old:Blk)(c k:Nat)(z:eB)(Fin:Blk→eZ→eX→Prop)(w0:eX)(vs:List eB):Prop:=
 ∀(A0 AK:Blk) (gs:Array eZ) (w:eX) (sl:Option (Nat×Nat)) (t:lD) (q:Nat→Nat) (a b:eZ),Rel Old Zu w0 w→Env P Old c k A0 AK gs w t q→gs[0]? =some a→gs[k]? =some b→OW P true Old (Yr P Old c z Fin vs) A0 a w→OW P false Old (qH P Old c vs) AK b w→zY P (End Old Fin w0) gs w sl t
theorem bk {vs:List eB}(a8:∀v b1,vs=v::b1 →FG P Old c k z Fin w0 b1){g' :eZ}{b:eZ}{wb:eX}(h:OW P false Old (qH P Old c vs) AK b wb):∀(w:eX) (gs:Array eZ) (sl:Option (Nat×Nat)) (t:lD) (q:Nat→Nat),Rel Old AK wb w→Rel Old Zu w0 w→Env P Old c k A0 AK gs w t q→
  gs[0]? =some (parked (core g') #[rcase c z] (.recv true))→(∀w1,Rel Old A0 w w1→Yr P Old c z Fin vs A0 g' w1)→gs[k]? =some b→zY P (End Old Fin w0) gs w sl t:=by
 have nr:¬(parked (core g') #[rcase c z] (.recv true)).status= .running:=fun e=>by cases e
 have ca:K7 c (parked (core g') #[rcase c z] (.recv true)):= .inr (.inl ⟨_,_,_,rfl⟩);induction h using OW.ind with
 | @stop AK b wb b6=>
  suffices H:∀(M:Nat) (w:eX) (gs:Array eZ) (sl:Option (Nat×Nat)) (t:lD) (q:Nat→Nat),sumTo gs.size q<M→Rel Old AK wb w→Rel Old Zu w0 w→Env P Old c k A0 AK gs w t q→gs[0]? =some (parked (core g') #[rcase c z] (.recv true))→(∀w1,Rel Old A0 w w1→Yr P Old c z Fin vs A0 g' w1)→gs[k]? =some b→zY P (End Old Fin w0) gs w sl t from
   fun w gs sl t q hr a5 E h0 hR hk=>H _ w gs sl t q (lR _) hr a5 E h0 hR hk
  intro M;induction M with
  |zero=>exact fun w gs sl t q hM=>absurd hM (mD _)
  |succ M ih=>
   intro w gs sl t q hM hr a5 E h0 hR hk;have b5:b.status= .running:=(b6 w hr).run;obtain⟨d,a4,a3⟩:=E.turn (sl:=sl) h0 hk ca (.inl (.inl b5)) (.inr b5);have a7:=hr.trans (Rel.at Old AK w d);have a1:=a5.trans (Rel.at Old Zu w d);rcases a3 with⟨h,_⟩|⟨_,a0⟩|⟨gs',ops,q',a0,E',b2,b3,d4⟩
   ·exact absurd h nr
   ·have hS:=b6 _ a7
    cases vs with
    |nil=>
     obtain⟨e1,w1,ops,a2,a6⟩:=OR (sl:=a4) (E.at d) h0 hk hS a1 (.inr ⟨g',rfl,fun w1 h1=>hR w1 ((Rel.at Old A0 w d).trans h1)⟩);exact zY.step (a0.trans a2) a6
    |cons v b1 =>
     obtain⟨_,g2,z',es,b8,b9,b4⟩:=hS;obtain⟨s,r,tm,hc⟩:=(E.at d).ch;have hp:partners (gs.setIfInBounds k ph) c false=[(0,0)]:=Kg (fun e=>E.k0 e.symm) h0 (by rw[offersAt_parked_recv,if_pos rfl]) (fun m o d6 d5 ho=>E.free m o d5 d6 ho);have a2:=crowd_send_meets (P:=P) (sl:=a4) hk (by rw[uP E.k0];exact b8) hc (fun e=>E.k0 e.symm) h0 hp;refine zY.step (a0.trans a2) ?_;rw[←lX];have E1:=(E.at d).stepK (gs' :=gs) (fn:=b.frame.fn) (pos:=b.frame.place) (yQ.look (w.at d) b9) rfl (fun _ _=>rfl);have d3:=E.ks;have d7:0<gs.size:=(lE.1 h0).1;have E2:=E1.comm (gs' :=(gs.setIfInBounds 0 ((core g').finishComm P #[rcase c z] (.recv true) 0 v true)).setIfInBounds k (g2.finishComm P #[scase c v z'] .send 0 lS false)) (OZ (c:=c) (i:=k) (j:=0) (f1:=g2.frame.fn) (f2:=(core g').frame.fn) (p1:=g2.frame.place) (p2:=(core g').frame.place) (s:=s) (r:=r) (cap:=0)) (by simp) (fun j c8 c9=>by rw[lH (fun e=>c9 e.symm),lH (fun e=>c8 e.symm)]) (s+1) (r+1) tm;refine a8 v b1 rfl A0 AK _ _ a4 _ q ((core g').finishComm P #[rcase c z] (.recv true) 0 v true) (g2.finishComm P #[scase c v z'] .send 0 lS false) (a1.trans (Rel.chan (fun e=>e) E.nc.2.2 ..)) E2 ?_ ?_ ?_ ?_
     ·rw[lH E.k0,mA d7]
     ·rw[mA (by simpa using d3)]
     ·rw[finishComm_recv]
      exact(xA ..).1 ((hR _ (Rel.at Old A0 w d)).2 _ (Rel.chan E.nc.1 E.nc.2.2 ..))
     ·rw[finishComm_send]
      exact(Vt ..).1 (b4 _ (Rel.chan E.nc.2.1 E.nc.2.2 ..))
   ·exact zY.step a0 (ih _ gs' a4 _ q' (by omega) a7 a1 E' b2 (fun w1 h1=>hR w1 ((Rel.at Old A0 w d).trans h1)) b3)
 | @step AK b wb f v e B hs h1 _ d9=>
  suffices H:∀(M:Nat) (w:eX) (gs:Array eZ) (sl:Option (Nat×Nat)) (t:lD) (q:Nat→Nat),sumTo gs.size q<M→Rel Old AK wb w→Rel Old Zu w0 w→Env P Old c k A0 AK gs w t q→gs[0]? =some (parked (core g') #[rcase c z] (.recv true))→(∀w1,Rel Old A0 w w1→Yr P Old c z Fin vs A0 g' w1)→gs[k]? =some b→zY P (End Old Fin w0) gs w sl t from
   fun w gs sl t q hr a5 E h0 hR hk=>H _ w gs sl t q (lR _) hr a5 E h0 hR hk
  intro M;induction M with
  |zero=>exact fun w gs sl t q hM=>absurd hM (mD _)
  |succ M ih=>
   intro w gs sl t q hM hr a5 E h0 hR hk;obtain⟨d,a4,a3⟩:=E.turn (sl:=sl) h0 hk ca (.inl (.inl hs)) (.inr hs);have a7:=hr.trans (Rel.at Old AK w d);have a1:=a5.trans (Rel.at Old Zu w d);rcases a3 with⟨h,_⟩|⟨_,a0⟩|⟨gs',ops,q',a0,E',b2,b3,d4⟩
   ·exact absurd h nr
   ·obtain⟨c7,hG⟩:=h1 _ a7
    have b7:∃s r tm,(v (w.at d)).heap[c]? =some (.chan 0 #[] false s r tm):=((E.at d).stepK (gs' :=gs) (fn:=b.frame.fn) (pos:=b.frame.place) hG rfl (fun _ _=>rfl)).ch
    obtain⟨gs',a2,d8,c6,a9⟩:=qu (P:=P) (sl:=a4) (c:=c) hk (by rw[uP E.k0];exact c7) (fun j o _ hj=>E.calm h0 hk ca (.inl (.inl hs)) j o hj) b7;refine zY.step (a0.trans a2) (d9 _ a7 _ gs' a4 _ q (Rel.refl _ _ _) (a1.trans (hG.none E.apart.oK E.sO)) ((E.at d).stepK hG d8 a9) (by rw[a9 0 (fun e=>E.k0 e.symm)];exact h0) (fun w1 h1=>hR w1 (((Rel.at Old A0 w d).trans (hG.rel E.apart.ok E.apart.oK E.s0 E.sO)).trans h1)) c6)
   ·exact zY.step a0 (ih _ gs' a4 _ q' (by omega) a7 a1 E' b2 (fun w1 h1=>hR w1 ((Rel.at Old A0 w d).trans h1)) b3)
theorem bj {v:eB}{a7 :List eB}(a8:FG P Old c k z Fin w0 a7){g2:eZ}{z' :eB}{a:eZ}{wa:eX}(h:OW P true Old (Yr P Old c z Fin (v::a7)) A0 a wa):∀(w:eX) (gs:Array eZ) (sl:Option (Nat×Nat)) (t:lD) (q:Nat→Nat),Rel Old A0 wa w→Rel Old Zu w0 w→Env P Old c k A0 AK gs w t q→
  gs[0]? =some a→gs[k]? =some (parked g2 #[scase c v z'] .send)→(∀w1,Rel Old AK w w1→Snd P Old c a7 AK (Conc.served g2 lS) w1)→zY P (End Old Fin w0) gs w sl t:=by
 have nr:¬(parked g2 #[scase c v z'] .send).status= .running:=fun e=>by cases e
 have cb:K7 c (parked g2 #[scase c v z'] .send):= .inr (.inr ⟨_,_,_,_,rfl⟩);generalize b6:v::a7 =vs at h;induction h using OW.ind with
 | @stop A0 a wa b5=>
  subst b6;suffices H:∀(M:Nat) (w:eX) (gs:Array eZ) (sl:Option (Nat×Nat)) (t:lD) (q:Nat→Nat),sumTo gs.size q<M→Rel Old A0 wa w→Rel Old Zu w0 w→Env P Old c k A0 AK gs w t q→gs[0]? =some a→gs[k]? =some (parked g2 #[scase c v z'] .send)→(∀w1,Rel Old AK w w1→Snd P Old c a7 AK (Conc.served g2 lS) w1)→zY P (End Old Fin w0) gs w sl t from
   fun w gs sl t q hr a3 E h0 hk hS=>H _ w gs sl t q (lR _) hr a3 E h0 hk hS
  intro M;induction M with
  |zero=>exact fun w gs sl t q hM=>absurd hM (mD _)
  |succ M ih=>
   intro w gs sl t q hM hr a3 E h0 hk hS;have b4:a.status= .running:=(b5 w hr).run;obtain⟨d,a5,a2⟩:=E.turn (sl:=sl) h0 hk (.inl (.inl b4)) cb (.inl b4);have a6:=hr.trans (Rel.at Old A0 w d);have a1:=a3.trans (Rel.at Old Zu w d);rcases a2 with⟨_,a0⟩|⟨h,_⟩|⟨gs',ops,q',a0,E',b1,b2,d4⟩
   ·obtain⟨⟨_,es,b8,b9⟩,b3⟩:=b5 _ a6
    obtain⟨s,r,tm,hc⟩:=(E.at d).ch;have hp:partners (gs.setIfInBounds 0 ph) c true=[(k,0)]:=Kg E.k0 hk (by rw[offersAt_parked_send,if_pos rfl]) (fun m o d5 d6 ho=>E.free m o d5 d6 ho);have a4:=crowd_recv_meets (P:=P) (sl:=a5) h0 b8 hc E.k0 hk hp;refine zY.step (a0.trans a4) ?_;rw[←lX];have E1:=(E.at d).step0 (gs' :=gs) (fn:=a.frame.fn) (pos:=a.frame.place) (yQ.look (w.at d) b9) rfl (fun _ _=>rfl);have d3:=E.ks;have d7:0<gs.size:=(lE.1 h0).1;have E2:=E1.comm (gs' :=(gs.setIfInBounds k (g2.finishComm P #[scase c v z'] .send 0 lS false)).setIfInBounds 0 ((core a).finishComm P #[rcase c z] (.recv true) 0 v true)) (OZ (c:=c) (i:=k) (j:=0) (f1:=g2.frame.fn) (f2:=(core a).frame.fn) (p1:=g2.frame.place) (p2:=(core a).frame.place) (s:=s) (r:=r) (cap:=0)) (by simp) (fun j c8 c9=>by rw[lH (fun e=>c8 e.symm),lH (fun e=>c9 e.symm)]) (s+1) (r+1) tm;refine a8 A0 AK _ _ a5 _ q ((core a).finishComm P #[rcase c z] (.recv true) 0 v true) (g2.finishComm P #[scase c v z'] .send 0 lS false) (a1.trans (Rel.chan (fun e=>e) E.nc.2.2 ..)) E2 ?_ ?_ ?_ ?_
    ·rw[mA (by simpa using d7)]
    ·rw[lH (fun e=>E.k0 e.symm),mA d3]
    ·rw[finishComm_recv]
     exact(xA ..).1 (b3 _ (Rel.chan E.nc.1 E.nc.2.2 ..))
    ·rw[finishComm_send]
     exact(Vt ..).1 (hS _ ((Rel.at Old AK w d).trans (Rel.chan E.nc.2.1 E.nc.2.2 ..)))
   ·exact absurd h nr
   ·exact zY.step a0 (ih _ gs' a5 _ q' (by omega) a6 a1 E' b1 b2 (fun w1 h1=>hS w1 ((Rel.at Old AK w d).trans h1)))
 | @step A0 a wa f u e B hs h1 _ d9=>
  subst b6;suffices H:∀(M:Nat) (w:eX) (gs:Array eZ) (sl:Option (Nat×Nat)) (t:lD) (q:Nat→Nat),sumTo gs.size q<M→Rel Old A0 wa w→Rel Old Zu w0 w→Env P Old c k A0 AK gs w t q→gs[0]? =some a→gs[k]? =some (parked g2 #[scase c v z'] .send)→(∀w1,Rel Old AK w w1→Snd P Old c a7 AK (Conc.served g2 lS) w1)→zY P (End Old Fin w0) gs w sl t from
   fun w gs sl t q hr a3 E h0 hk hS=>H _ w gs sl t q (lR _) hr a3 E h0 hk hS
  intro M;induction M with
  |zero=>exact fun w gs sl t q hM=>absurd hM (mD _)
  |succ M ih=>
   intro w gs sl t q hM hr a3 E h0 hk hS;obtain⟨d,a5,a2⟩:=E.turn (sl:=sl) h0 hk (.inl (.inl hs)) cb (.inl hs);have a6:=hr.trans (Rel.at Old A0 w d);have a1:=a3.trans (Rel.at Old Zu w d);rcases a2 with⟨_,a0⟩|⟨h,_⟩|⟨gs',ops,q',a0,E',b1,b2,d4⟩
   ·obtain⟨c7,hG⟩:=h1 _ a6
    have b7:∃s r tm,(u (w.at d)).heap[c]? =some (.chan 0 #[] false s r tm):=((E.at d).step0 (gs' :=gs) (fn:=a.frame.fn) (pos:=a.frame.place) hG rfl (fun _ _=>rfl)).ch
    obtain⟨gs',a4,d8,c6,a9⟩:=qu (P:=P) (sl:=a5) (c:=c) h0 c7 (fun j o _ hj=>E.calm h0 hk (.inl (.inl hs)) cb j o hj) b7;refine zY.step (a0.trans a4) (d9 _ a6 _ gs' a5 _ q (Rel.refl _ _ _) (a1.trans (hG.none E.apart.o0 E.sO)) ((E.at d).step0 hG d8 a9) c6 (by rw[a9 k E.k0];exact hk) (fun w1 h1=>hS w1 (((Rel.at Old AK w d).trans (hG.rel (fun b hb ha=>E.apart.ok b ha hb) E.apart.o0 E.sK E.sO)).trans h1)))
   ·exact absurd h nr
   ·exact zY.step a0 (ih _ gs' a5 _ q' (by omega) a6 a1 E' b1 b2 (fun w1 h1=>hS w1 ((Rel.at Old AK w d).trans h1)))
theorem B5 {vs:List eB}(a0:∀v a6,vs=v::a6 →FG P Old c k z Fin w0 a6){a b:eZ}(a5:∀w1,Rel Old A0 w w1→Yr P Old c z Fin vs A0 a w1)(hK:OW P false Old (qH P Old c vs) AK b w)(b1:Rel Old Zu w0 w)(E:Env P Old c k A0 AK gs w t q)(h0:gs[0]? =some a)(hk:gs[k]? =some b):
  ∃a2 w1 ops,runT P (crowd gs w sl) 0=(.next (crowd a2 w1 sl),ops)∧zY P (End Old Fin w0) a2 w1 sl (t++ops):=by
 have a7:=hK.running (fun _ _ _ h=>h.run);obtain⟨_,es,a8,a9⟩:=(a5 w (Rel.refl _ _ _)).at;obtain⟨s,r,tm,hc⟩:=E.ch;have hp:partners (gs.setIfInBounds 0 ph) c true=[]:=Q4 fun j o hj ho=>by
  by_cases a4:j=k
  ·subst a4;rw[hk]at ho;obtain rfl:=Option.some.inj ho;rw[a7];intro e;cases e
  ·exact E.free j o hj a4 ho
 have a1:=crowd_waits (P:=P) (sl:=sl) h0 a8 (fun cc a3=>by
  simp only[lV,iT,lA,or_false]at a3;subst a3;exact ways_recv_none hc hp)
 refine⟨_,_,_,a1,bk a0 hK w _ sl _ q (Rel.refl _ _ _) b1 (E.step0 (yQ.look w a9) (by simp) (fun j hj=>by rw[lH (fun e=>hj e.symm)])) (by rw[mA (lE.1 h0).1]) a5 (by rw[lH (fun e=>E.k0 e.symm)];exact hk)⟩
theorem B0 {vs:List eB}(a0:∀v a1,vs=v::a1 →FG P Old c k z Fin w0 a1){a b:eZ}(a2:OW P true Old (Yr P Old c z Fin vs) A0 a w)(b1:qH P Old c vs AK b w)(a9:Rel Old Zu w0 w)(E:Env P Old c k A0 AK gs w t q)(h0:gs[0]? =some a)(hk:gs[k]? =some b):
  ∃a5 w1 ops,runT P (crowd gs w sl) k=(.next (crowd a5 w1 sl),ops)∧zY P (End Old Fin w0) a5 w1 sl (t++ops):=by
 have a6:=a2.running (fun _ _ _ h=>h.run)
 cases vs with
 |nil=>exact OR E h0 hk b1 a9 (.inl ⟨a6,a2⟩)
 |cons v a1 =>
  obtain⟨_,g2,z',es,b2,b3,a3⟩:=b1;obtain⟨s,r,tm,hc⟩:=E.ch;have hp:partners (gs.setIfInBounds k ph) c false=[]:=Q4 fun j o hj ho=>by
   by_cases a8:j=0
   ·subst a8;rw[h0]at ho;obtain rfl:=Option.some.inj ho;rw[a6];intro e;cases e
   ·exact E.free j o a8 hj ho
  have a4:=crowd_waits (P:=P) (sl:=sl) hk (by rw[uP E.k0];exact b2) (fun cc a7=>by
   simp only[lV,iT,lA,or_false]at a7;subst a7;exact ways_send_none hc (Nat.zero_le _) hp)
  refine⟨_,_,_,a4,bj (a0 v a1 rfl) a2 w _ sl _ q (Rel.refl _ _ _) a9 (E.stepK (yQ.look w b3) (by simp) (fun j hj=>by rw[lH (fun e=>hj e.symm)])) (by rw[lH E.k0];exact h0) (by rw[mA E.ks]) a3⟩
theorem uM {vs:List eB}(a9:∀v e3,vs=v::e3 →FG P Old c k z Fin w0 e3){a:eZ}{wa:eX}(h:OW P true Old (Yr P Old c z Fin vs) A0 a wa):∀{AK:Blk} {b:eZ} {wb:eX} (_:OW P false Old (qH P Old c vs) AK b wb) (w:eX) (gs:Array eZ) (sl:Option (Nat×Nat)) (t:lD) (q:Nat→Nat),
  Rel Old A0 wa w→Rel Old AK wb w→Rel Old Zu w0 w→Env P Old c k A0 AK gs w t q→gs[0]? =some a→gs[k]? =some b→zY P (End Old Fin w0) gs w sl t:=by
 induction h using OW.ind with
 | @stop A0 a wa c6=>
  intro AK b wb hK;induction hK using OW.ind with
  | @stop AK b wb a8=>
   suffices H:∀(M:Nat) (w:eX) (gs:Array eZ) (sl:Option (Nat×Nat)) (t:lD) (q:Nat→Nat),sumTo gs.size q<M→Rel Old A0 wa w→Rel Old AK wb w→Rel Old Zu w0 w→Env P Old c k A0 AK gs w t q→gs[0]? =some a→gs[k]? =some b→zY P (End Old Fin w0) gs w sl t from
    fun w gs sl t q h1 h2 h3 h4 h5 h6=>H _ w gs sl t q (lR _) h1 h2 h3 h4 h5 h6
   intro M;induction M with
   |zero=>exact fun w gs sl t q hM=>absurd hM (mD _)
   |succ M ih=>
    intro w gs sl t q hM b1 b2 b6 E h0 hk;have b9:a.status= .running:=(c6 w b1).run;have c7:b.status= .running:=(a8 w b2).run;obtain⟨d,a7,a6⟩:=E.turn (sl:=sl) h0 hk (.inl (.inl b9)) (.inl (.inl c7)) (.inl b9);have a1:=b1.trans (Rel.at Old A0 w d);have a2:=b2.trans (Rel.at Old AK w d);have a3:=b6.trans (Rel.at Old Zu w d);rcases a6 with⟨_,a0⟩|⟨_,a0⟩|⟨gs',ops,q',a0,E',b3,b5,d7⟩
    ·obtain⟨c9,w1,ops,a4,b7⟩:=B5 (sl:=a7) a9 (fun w1 h1=>c6 w1 (a1.trans h1)) (OW.stop fun w1 h1=>a8 w1 (a2.trans h1)) a3 (E.at d) h0 hk
     exact zY.step (a0.trans a4) b7
    ·obtain⟨c9,w1,ops,a4,b7⟩:=B0 (sl:=a7) a9 (OW.stop fun w1 h1=>c6 w1 (a1.trans h1)) (a8 _ a2) a3 (E.at d) h0 hk
     exact zY.step (a0.trans a4) b7
    ·exact zY.step a0 (ih _ gs' a7 _ q' (by omega) a1 a2 a3 E' b3 b5)
  | @step AK b wb f v e B hs h1 h2 d9=>
   suffices H:∀(M:Nat) (w:eX) (gs:Array eZ) (sl:Option (Nat×Nat)) (t:lD) (q:Nat→Nat),sumTo gs.size q<M→Rel Old A0 wa w→Rel Old AK wb w→Rel Old Zu w0 w→Env P Old c k A0 AK gs w t q→gs[0]? =some a→gs[k]? =some b→zY P (End Old Fin w0) gs w sl t from
    fun w gs sl t q h1 h2 h3 h4 h5 h6=>H _ w gs sl t q (lR _) h1 h2 h3 h4 h5 h6
   intro M;induction M with
   |zero=>exact fun w gs sl t q hM=>absurd hM (mD _)
   |succ M ih=>
    intro w gs sl t q hM b1 b2 b6 E h0 hk;have b9:a.status= .running:=(c6 w b1).run;obtain⟨d,a7,a6⟩:=E.turn (sl:=sl) h0 hk (.inl (.inl b9)) (.inl (.inl hs)) (.inl b9);have a1:=b1.trans (Rel.at Old A0 w d);have a2:=b2.trans (Rel.at Old AK w d);have a3:=b6.trans (Rel.at Old Zu w d);rcases a6 with⟨_,a0⟩|⟨_,a0⟩|⟨gs',ops,q',a0,E',b3,b5,d7⟩
    ·obtain⟨c9,w1,ops,a4,b7⟩:=B5 (sl:=a7) a9 (fun w1 h1=>c6 w1 (a1.trans h1)) ((OW.step f v e B hs h1 h2).rely a2) a3 (E.at d) h0 hk
     exact zY.step (a0.trans a4) b7
    ·obtain⟨b4,hG⟩:=h1 _ a2
     have d4:∃s r tm,(v (w.at d)).heap[c]? =some (.chan 0 #[] false s r tm):=((E.at d).stepK (gs' :=gs) (fn:=b.frame.fn) (pos:=b.frame.place) hG rfl (fun _ _=>rfl)).ch
     obtain⟨gs',a4,b8,d6,a5⟩:=qu (P:=P) (sl:=a7) (c:=c) hk (by rw[uP E.k0];exact b4) (fun j o _ hj=>E.calm h0 hk (.inl (.inl b9)) (.inl (.inl hs)) j o hj) d4;exact zY.step (a0.trans a4) (d9 _ a2 _ gs' a7 _ q (a1.trans (hG.rel E.apart.ok E.apart.oK E.s0 E.sO)) (Rel.refl _ _ _) (a3.trans (hG.none E.apart.oK E.sO)) ((E.at d).stepK hG b8 a5) (by rw[a5 0 (fun e=>E.k0 e.symm)];exact h0) d6)
    ·exact zY.step a0 (ih _ gs' a7 _ q' (by omega) a1 a2 a3 E' b3 b5)
 | @step A0 a wa f u e B hs h1 h2 e2=>
  intro AK b wb hK;induction hK using OW.ind with
  | @stop AK b wb a8=>
   suffices H:∀(M:Nat) (w:eX) (gs:Array eZ) (sl:Option (Nat×Nat)) (t:lD) (q:Nat→Nat),sumTo gs.size q<M→Rel Old A0 wa w→Rel Old AK wb w→Rel Old Zu w0 w→Env P Old c k A0 AK gs w t q→gs[0]? =some a→gs[k]? =some b→zY P (End Old Fin w0) gs w sl t from
    fun w gs sl t q h1 h2 h3 h4 h5 h6=>H _ w gs sl t q (lR _) h1 h2 h3 h4 h5 h6
   intro M;induction M with
   |zero=>exact fun w gs sl t q hM=>absurd hM (mD _)
   |succ M ih=>
    intro w gs sl t q hM b1 b2 b6 E h0 hk;have c7:b.status= .running:=(a8 w b2).run;obtain⟨d,a7,a6⟩:=E.turn (sl:=sl) h0 hk (.inl (.inl hs)) (.inl (.inl c7)) (.inl hs);have a1:=b1.trans (Rel.at Old A0 w d);have a2:=b2.trans (Rel.at Old AK w d);have a3:=b6.trans (Rel.at Old Zu w d);rcases a6 with⟨_,a0⟩|⟨_,a0⟩|⟨gs',ops,q',a0,E',b3,b5,d7⟩
    ·obtain⟨b4,hG⟩:=h1 _ a1
     have d3:∃s r tm,(u (w.at d)).heap[c]? =some (.chan 0 #[] false s r tm):=((E.at d).step0 (gs' :=gs) (fn:=a.frame.fn) (pos:=a.frame.place) hG rfl (fun _ _=>rfl)).ch
     obtain⟨gs',a4,b8,d5,a5⟩:=qu (P:=P) (sl:=a7) (c:=c) h0 b4 (fun j o _ hj=>E.calm h0 hk (.inl (.inl hs)) (.inl (.inl c7)) j o hj) d3;have d8:=hG.rel (fun b hb ha=>E.apart.ok b ha hb) E.apart.o0 E.sK E.sO;exact zY.step (a0.trans a4) (e2 _ a1 (OW.stop a8) _ gs' a7 _ q (Rel.refl _ _ _) (a2.trans d8) (a3.trans (hG.none E.apart.o0 E.sO)) ((E.at d).step0 hG b8 a5) d5 (by rw[a5 k E.k0];exact hk))
    ·obtain⟨c9,w1,ops,a4,b7⟩:=B0 (sl:=a7) a9 ((OW.step f u e B hs h1 h2).rely a1) (a8 _ a2) a3 (E.at d) h0 hk
     exact zY.step (a0.trans a4) b7
    ·exact zY.step a0 (ih _ gs' a7 _ q' (by omega) a1 a2 a3 E' b3 b5)
  | @step AK b wb f' v e' B' c8 e1 e6 d9=>
   suffices H:∀(M:Nat) (w:eX) (gs:Array eZ) (sl:Option (Nat×Nat)) (t:lD) (q:Nat→Nat),sumTo gs.size q<M→Rel Old A0 wa w→Rel Old AK wb w→Rel Old Zu w0 w→Env P Old c k A0 AK gs w t q→gs[0]? =some a→gs[k]? =some b→zY P (End Old Fin w0) gs w sl t from
    fun w gs sl t q h1 h2 h3 h4 h5 h6=>H _ w gs sl t q (lR _) h1 h2 h3 h4 h5 h6
   intro M;induction M with
   |zero=>exact fun w gs sl t q hM=>absurd hM (mD _)
   |succ M ih=>
    intro w gs sl t q hM b1 b2 b6 E h0 hk;obtain⟨d,a7,a6⟩:=E.turn (sl:=sl) h0 hk (.inl (.inl hs)) (.inl (.inl c8)) (.inl hs);have a1:=b1.trans (Rel.at Old A0 w d);have a2:=b2.trans (Rel.at Old AK w d);have a3:=b6.trans (Rel.at Old Zu w d);rcases a6 with⟨_,a0⟩|⟨_,a0⟩|⟨gs',ops,q',a0,E',b3,b5,d7⟩
    ·obtain⟨b4,hG⟩:=h1 _ a1
     have d3:∃s r tm,(u (w.at d)).heap[c]? =some (.chan 0 #[] false s r tm):=((E.at d).step0 (gs' :=gs) (fn:=a.frame.fn) (pos:=a.frame.place) hG rfl (fun _ _=>rfl)).ch
     obtain⟨gs',a4,b8,d5,a5⟩:=qu (P:=P) (sl:=a7) (c:=c) h0 b4 (fun j o _ hj=>E.calm h0 hk (.inl (.inl hs)) (.inl (.inl c8)) j o hj) d3;have d8:=hG.rel (fun b hb ha=>E.apart.ok b ha hb) E.apart.o0 E.sK E.sO;exact zY.step (a0.trans a4) (e2 _ a1 (OW.step f' v e' B' c8 e1 e6) _ gs' a7 _ q (Rel.refl _ _ _) (a2.trans d8) (a3.trans (hG.none E.apart.o0 E.sO)) ((E.at d).step0 hG b8 a5) d5 (by rw[a5 k E.k0];exact hk))
    ·obtain⟨b4,hG⟩:=e1 _ a2
     have d4:∃s r tm,(v (w.at d)).heap[c]? =some (.chan 0 #[] false s r tm):=((E.at d).stepK (gs' :=gs) (fn:=b.frame.fn) (pos:=b.frame.place) hG rfl (fun _ _=>rfl)).ch
     obtain⟨gs',a4,b8,d6,a5⟩:=qu (P:=P) (sl:=a7) (c:=c) hk (by rw[uP E.k0];exact b4) (fun j o _ hj=>E.calm h0 hk (.inl (.inl hs)) (.inl (.inl c8)) j o hj) d4;exact zY.step (a0.trans a4) (d9 _ a2 _ gs' a7 _ q (a1.trans (hG.rel E.apart.ok E.apart.oK E.s0 E.sO)) (Rel.refl _ _ _) (a3.trans (hG.none E.apart.oK E.sO)) ((E.at d).stepK hG b8 a5) (by rw[a5 0 (fun e=>E.k0 e.symm)];exact h0) d6)
    ·exact zY.step a0 (ih _ gs' a7 _ q' (by omega) a1 a2 a3 E' b3 b5)
theorem K8:∀(vs:List eB),FG P Old c k z Fin w0 vs
 |[]=>fun _ _ _ _ _ _ _ _ _ a0 E h0 hk ha hb=>uM (fun _ _ e=>by cases e) ha hb _ _ _ _ _ (Rel.refl _ _ _) (Rel.refl _ _ _) a0 E h0 hk
 |_::vs=>fun _ _ _ _ _ _ _ _ _ a0 E h0 hk ha hb=>uM (fun _ _ e=>by cases e;exact K8 vs) ha hb _ _ _ _ _ (Rel.refl _ _ _) (Rel.refl _ _ _) a0 E h0 hk
end
open Go.ConcN (sumTo upd sumTo_upd upd_ne upd_same)
def Xd (w:eX)(c:Nat):Blk:=fun b=>b<w.heap.size∧b≠c
section
variable {P:eA}{c:Nat}{z:eB}{Fin:Blk→eZ→eX→Prop}{w:eX}{vs:List eB}{g g' child:eZ}{Q:eZ→eX→Prop}
theorem Bm (hg:g.status= .running)(c7:∀d,stepG P true g (w.at d)= .spawn g' child (w.at d) #[])(hc:∃s r tm,w.heap[c]? =some (.chan 0 #[] false s r tm))
  (hR:Rcv P (Xd w c) c z Fin vs Zu g' w)(hS:Snd P (Xd w c) c vs Zu child w)(hQ:∀g2 w2,End (Xd w c) Fin w g2 w2→Q g2 w2):To P Q g w:=by
 suffices H:∀(M:Nat) (gs:Array eZ) (d0:Nat) (sl:Option (Nat×Nat)) (t:lD) (q:Nat→Nat),sumTo gs.size q<M→gs[0]? =some g→Leavers P t gs q→x9 t→
   ∃(N:Nat) (gs' :Array eZ) (g' :eZ) (w' :eX) (a2 :Option (Nat×Nat)) (t' :lD) (q' :Nat→Nat),
    runNT P N (crowd gs (w.at d0) sl) t=(.next (crowd gs' w' a2),t')∧gs'[0]? =some g' ∧Q g' w' ∧Leavers P t' gs' q' ∧x9 t' by
  intro gs sl t q h0 hL hP;exact H _ gs w.drawn sl t q (lR _) h0 hL hP
 intro M;induction M with
 |zero=>
  intro gs d0 sl t q hM;exact absurd hM (mD _)
 |succ M c8=>
  intro gs d0 sl t q hM h0 hL hP;have c6:∀x∈gs,awake x:=by
   intro x hx;obtain⟨i,hi,rfl⟩:=lF.1 hx;rcases lG i with rfl|a0
   ·have:gs[0]=g:=by simpa[lI hi]using h0
    rw[this];exact awake_of (.inl hg)
   ·exact awake_of ((hL.old i _ a0 (lI hi)).status.elim .inl fun x=> .inr (.inr x))
  obtain⟨i,b,d,a2,hi,hb,b5⟩:=crowd_pick (P:=P) (w:=w.at d0) (sl:=sl) c6 ⟨0,g,h0,hg⟩;rcases lG i with rfl|a0
  ·obtain rfl:b=g:=by rw[h0]at hi;exact(Option.some.inj hi).symm
   have b4:0<gs.size:=(lE.1 h0).1;have a3:=runT_crowd_spawn (P:=P) (sl:=a2) (w:=(w.at d0).at d) h0 (show stepG P (0==0) b ((w.at d0).at d)=_ from c7 d);have he:(((MemOp.ofEvents 0 b.frame.fn b.frame.place #[]).push {g:=0,fn:=b.frame.fn,pos:=b.frame.place,act:= .go gs.size}).push {g:=gs.size,fn:=child.frame.fn,pos:=b.frame.place,act:= .start}:Array MemOp)= #[{g:=0,fn:=b.frame.fn,pos:=b.frame.place,act:= .go gs.size},{g:=gs.size,fn:=child.frame.fn,pos:=b.frame.place,act:= .start}]:=rfl;rw[he]at a3;have hu:∀op∈(#[{g:=0,fn:=b.frame.fn,pos:=b.frame.place,act:= .go gs.size},{g:=gs.size,fn:=child.frame.fn,pos:=b.frame.place,act:= .start}]:Array MemOp),∀x,op.act≠ .mark x:=by
    intro op b3 x hx;simp only[lV,iT,lA,or_false]at b3;rcases b3 with rfl|rfl<;>cases hx
   have a7:Mid (Xd w c) Zu Zu gs.size (t++ #[{g:=0,fn:=b.frame.fn,pos:=b.frame.place,act:= .go gs.size},{g:=gs.size,fn:=child.frame.fn,pos:=b.frame.place,act:= .start}]):=Mid.fork (by omega) hP (hL.above _ (iA _)) _ _ _ _;obtain⟨s,r,tm,hc⟩:=hc;have c9:c<w.heap.size:=(lE.1 hc).1;have E:Env P (Xd w c) c gs.size Zu Zu ((gs.setIfInBounds 0 g').push child) ((w.at d0).at d) (t++ #[{g:=0,fn:=b.frame.fn,pos:=b.frame.place,act:= .go gs.size},{g:=gs.size,fn:=child.frame.fn,pos:=b.frame.place,act:= .start}]) q:=by
    refine⟨by omega,by simp,fun i x hi hk hx=> ?_,fun j hj=> ?_,⟨fun _ h=>h.elim,fun _ h=>h.elim,fun _ h=>h.elim⟩,fun _ h=>h.elim,fun _ h=>h.elim,fun b hb=>hb.1,⟨fun h=>h,fun h=>h,fun h=>h.2 rfl⟩,⟨s,r,tm,hc⟩,a7⟩
    ·have b2:i<((gs.setIfInBounds 0 g').push child).size:=(lE.1 hx).1
     simp only[mE,mB]at b2;rw[mF (by simpa using(by omega:i<gs.size)),←lI,lH (by omega)]at hx;rw[ZG hu];exact hL.old i x hi hx
    ·simp only[mE,mB]at hj
     rw[ZG hu];exact hL.above j (by omega)
   have e0:((gs.setIfInBounds 0 g').push child)[0]? =some g' :=by
    rw[mF (by simpa using b4),←lI,mA b4]
   have ek:((gs.setIfInBounds 0 g').push child)[gs.size]? =some child:=by
    have:(gs.setIfInBounds 0 g').size=gs.size:=by simp
    rw[←this,Array.getElem?_push_size]
   have a9:∀A:Blk,Rel (Xd w c) A w ((w.at d0).at d):=fun A=>(Rel.at _ A w d0).trans (Rel.at _ A _ d)
   obtain⟨N,gs',g2,w',a1,t',q',b1,a4,a8,a5,a6⟩:=K8 (k:=gs.size) (w0:=w) vs Zu Zu _ _ a2 _ q g' child (a9 Zu) E e0 ek (((xA ..).1 hR).rely (a9 Zu)) (((Vt ..).1 hS).rely (a9 Zu));refine⟨N+1,gs',g2,w',a1,t',q',?_,a4,hQ _ _ a8,a5,a6⟩;simp only[runNT,b5,a3];exact b1
  ·obtain⟨b6,ops,q1,a3,d3,b7,b8,b9,b2⟩:=Ks (P:=P) (w:=w.at d) (sl:=a2) a0 hi hb h0 hg hL hP
   obtain⟨N,gs',g2,w',a1,t',q',b1,a4,a8,a5,a6⟩:=c8 b6 d a2 (t++ops) q1 (by omega) b7 b8 b9;refine⟨N+1,gs',g2,w',a1,t',q',?_,a4,a8,a5,a6⟩;simp only[runNT,b5];rw[show(w.at d0).at d=w.at d from rfl,a3];exact b1
end
def ToE (P:eA)(Q:eZ→eX→Prop)(g:eZ)(w:eX):Prop:=∀T d,To P Q g (re w T d)
def OkK (k:List Item)(cs:List iK):Prop:=(∀x∈k,Xw x)∧∀f∈cs,zO f
section
variable {P:eA}{Q Q' :eZ→eX→Prop}{g g' :eZ}{w:eX}{b:iK}{a:Act}{k:List Item}{cs:List iK}{x:Item}
theorem OkK.cons (h:OkK k cs)(hx:Xw x):OkK (x::k) cs:=⟨fun y hy=>by
 rcases iT.1 hy with rfl|hy
 ·exact hx
 ·exact h.1 y hy,h.2⟩
theorem OkK.fit (h:OkK k cs):Fit (G (b.at a k) cs):=⟨⟨h.1,h.2,fun d hd=>by cases hd⟩,rfl,rfl⟩
theorem OkK.fitR (h:OkK k cs):Fit (G {b.at a k with mode:= .returning} cs):=⟨⟨h.1,h.2,fun d hd=>by cases hd⟩,rfl,rfl⟩
theorem ToE.here (h:ToE P Q g w):To P Q g w:=h w.tape w.drawn
theorem ToE.rt (h:ToE P Q g w)(T:Nat→iC→Nat)(d:Nat):ToE P Q g (re w T d):=fun T' d' =>h T' d'
theorem ToE.trans (h:ToE P Q g w)(h' :∀g w,Q g w→ToE P Q' g w):ToE P Q' g w:=fun T d=>(h T d).trans fun g w hq=>(h' g w hq).here
theorem ToE.done (h:∀T d,Q g (mG w T d)):ToE P Q g w:=fun T d=>To.done (h T d)
theorem GJ (hP:zH P):∀(n:Nat) (g:eZ) (w:eX) (gf:eZ) (wf:eX),Fit g→gf.status= .running∧gf.dying=none→runN P n (solo g w)= .next (solo gf wf)→Fit gf
 |0,g,w,gf,wf,hf,_,h=>by
  simp only[runN]at h;have:solo g w=solo gf wf:=by injection h
  have e:g=gf:=by
   have:=congrArg (fun m:Machine=>m.gs[0]?) this;simpa[solo]using this
  exact e▸hf
 |n+1,g,w,gf,wf,hf,hg,h=>by
  obtain⟨g',w',ops,_,a0,_,hr⟩:=J2 hP hf hg h;exact GJ hP n g' w' gf wf a0 hg hr
theorem Yt.fit (hP:zH P)(hf:Fit g)(h:Yt P Q g w):Yt P (fun g w=>Q g w∧Fit g) g w:=fun T d=>by
 obtain⟨n,gf,wf,hr,hq,hg⟩:=h T d;exact⟨n,gf,wf,hr,⟨hq,GJ hP n _ _ gf wf hf hg hr⟩,hg⟩
theorem ToE.lone (hP:zH P)(hQ:∀g w T d,Q g w→Q g (mG w T d))(hf:Fit g)(hR:Yt P Q g w):ToE P (fun g w=>Q g w∧Fit g) g w:=fun T d=>
 To.lone hP (fun g w T d h=>⟨hQ g w T d h.1,h.2⟩) hf (fun T' d' =>hR.fit hP hf T' d')
theorem ToE.ctl (hP:zH P)(hf:Fit g)(hg:g'.status= .running∧g'.dying=none)(h:∀w,step P (solo g w)= .next (solo g' w))(h' :ToE P Q g' w):ToE P Q g w:=
 (ToE.lone (Q:=fun g1 w1=>g1=g' ∧∃T d,w1=mG w T d) hP (fun _ _ T d ⟨e,_,_,e'⟩=>⟨e,T,d,by rw[e'];rfl⟩) hf fun T d=>⟨1,g',mG w T d,by simp only[runN,h],⟨rfl,T,d,rfl⟩,hg⟩).trans fun g1 w1 ⟨⟨e,T,d,e'⟩,_⟩=>by
  subst e e';exact h'.rt T d
def Vd (P:eA)(Z:eZ→eX→Prop)(b:iK)(k:List Item)(cs:List iK):mH→Act→eX→Prop
 | .normal,a,w=>ToE P Z (G (b.at a k) cs) w
 | .exit id,a,w=>∃k',exitTo id k=some k' ∧ToE P Z (G (b.at a k') cs) w
 | .ret,a,w=>∀todo,(∀x∈todo,Xw x)→ToE P Z (G {b.at a todo with mode:= .returning} cs) w
 |_,_,_=>False
def wpT (P:eA)(fn:FuncId)(c:Code)(Q:mH→Act→eX→Prop)(a:Act)(w:eX):Prop:=
 ∀(b:iK) (k:List Item) (cs:List iK) (Z:eZ→eX→Prop),b.fn=fn→OkK k cs→b.kind≠ .early→(∀e a' w',Q e a' w' →Vd P Z b k cs e a' w')→ToE P Z (G (b.at a (.code c::k)) cs) w
def qQ (P:eA)(fn:FuncId)(ops:Array Oper)(todo:List Nat)(Q:mH→Act→eX→Prop)(a:Act)(w:eX):Prop:=
 ∀(b:iK) (k:List Item) (cs:List iK) (Z:eZ→eX→Prop),b.fn=fn→OkK k cs→b.kind≠ .early→(∀e a' w',Q e a' w' →Vd P Z b k cs e a' w')→ToE P Z (G (b.at a (.inRegion ops todo::k)) cs) w
def zF (P:eA)(f:FuncId)(args:Array eB)(w:eX)(R:eB→eX→Prop):Prop:=
 ∀(c:iK) (cs:List iK) (Z:eZ→eX→Prop),zO c→(∀f∈cs,zO f)→(∀v w',R v w' →ToE P Z (G (c.finish v) cs) w')→ToE P Z (G (iM P f args .normal) (c::cs)) w
end
section
variable {P:eA}{fn:FuncId}{Q Q' :mH→Act→eX→Prop}{a:Act}{w:eX}
theorem Vd.push {Z:eZ→eX→Prop}{b:iK}{x:Item}{k:List Item}{cs:List iK}{e:mH}{a:Act}{w:eX}(hx:x.plain=true)(he:e≠ .normal)(h:Vd P Z b k cs e a w):Vd P Z b (x::k) cs e a w:=by
 cases e with
 |normal=>exact absurd rfl he
 |exit id=>obtain⟨k',hk,hg⟩:=h;exact⟨k',by cases x<;>simp_all [exitTo,Item.plain],hg⟩
 |ret=>exact h
 |goto l=>exact h
 |panic ch=>exact h
 |outgrown=>exact h
theorem Bl {c:Code}(h:wpT P fn c Q a w)(T:Nat→iC→Nat)(d:Nat):wpT P fn c Q a (re w T d):=fun b k cs Z hF hO hb hc=>(h b k cs Z hF hO hb hc).rt T d
theorem Up {ops:Array Oper}{l:List Nat}(h:qQ P fn ops l Q a w)(T:Nat→iC→Nat)(d:Nat):qQ P fn ops l Q a (re w T d):=fun b k cs Z hF hO hb hc=>(h b k cs Z hF hO hb hc).rt T d
def dj (b:iK)(k:List Item)(cs:List iK)(g:eZ)(a:Act):mH→Prop
 | .normal=>g=G (b.at a k) cs
 | .exit id=>∃k',exitTo id k=some k' ∧g=G (b.at a k') cs
 | .ret=>∃todo,g=G {b.at a todo with mode:= .returning} cs
 |_=>False
theorem oq (hP:zH P){c:Code}(hQ:∀e a w T d,Q e a w→Q e a (re w T d))(h:∀T d,c.wp P Q a (re w T d)):wpT P fn c Q a w:=by
 intro b k cs Z hF hO hb hc;refine(ToE.lone (Q:=fun g w' =>∃e a',Q e a' w' ∧dj b k cs g a' e) hP (fun g w T d ⟨e,a',q,s⟩=>⟨e,a',hQ _ _ _ T d q,s⟩) (hO.cons (by trivial)).fit fun T d=> ?_).trans fun g w' ⟨⟨e,a',q,s⟩,hf⟩=> ?_
 ·obtain⟨e,a',w',q,a0⟩:=h T d b k cs
  have hA:=hc e a' w' q
  cases e with
  |normal=>
   obtain⟨n,hn⟩:=a0;exact⟨n,_,w',hn,⟨.normal,a',q,rfl⟩,rfl,rfl⟩
  |exit id=>
   obtain⟨k',a1,_⟩:=hA;obtain⟨n,hn⟩:=a0 k' a1;exact⟨n,_,w',hn,⟨.exit id,a',q,k',a1,rfl⟩,rfl,rfl⟩
  |ret=>
   obtain⟨todo,n,hn⟩:=a0;exact⟨n,_,w',hn,⟨.ret,a',q,todo,rfl⟩,rfl,rfl⟩
  |goto l=>exact hA.elim
  |panic ch=>exact hA.elim
  |outgrown=>exact hA.elim
 ·have hA:=hc e a' w' q
  cases e with
  |normal=>subst s;exact hA
  |exit id=>
   obtain⟨k',a1,rfl⟩:=s;obtain⟨k2,a2,ht⟩:=hA;rw[a1]at a2;obtain rfl:=Option.some.inj a2;exact ht
  |ret=>
   obtain⟨todo,rfl⟩:=s;exact hA todo hf.ok.1
  |goto l=>exact hA.elim
  |panic ch=>exact hA.elim
  |outgrown=>exact hA.elim
theorem zn (hP:zH P){x y:Code}(h:wpT P fn x (Exit.then (wpT P fn y Q) Q) a w):wpT P fn (.seq x y) Q a w:=by
 intro b k cs Z hF hO hb hc;refine ToE.ctl hP (hO.cons (by trivial)).fit ⟨rfl,rfl⟩ (fun w=>step_seq) (h b (.code y::k) cs Z hF (hO.cons (by trivial)) hb fun e a' w' q=> ?_)
 cases e with
 |normal=>exact q b k cs Z hF hO hb hc
 |exit id=>exact(hc _ _ _ q).push rfl (by simp)
 |ret=>exact(hc _ _ _ q).push (x:= .code y) rfl (by simp)
 |goto l=>exact hc _ _ _ q
 |panic ch=>exact hc _ _ _ q
 |outgrown=>exact hc _ _ _ q
theorem yR (hP:zH P){c:Operand}{x y:Code}{t:Bool}(hc:a.eval c= .bool t)(h:wpT P fn (if t then x else y) Q a w):wpT P fn (.cond c x y) Q a w:=
 fun b k cs Z hF hO hb hq=>ToE.ctl hP (hO.cons (by trivial)).fit ⟨rfl,rfl⟩ (fun w=>step_cond hc) (h b k cs Z hF hO hb hq)
theorem ZK (hP:zH P){id:Nat}{c:Code}(h:wpT P fn c (Exit.inBlock id Q) a w):wpT P fn (.block id c) Q a w:=by
 intro b k cs Z hF hO hb hc;refine ToE.ctl hP (hO.cons (by trivial)).fit ⟨rfl,rfl⟩ (fun w=>step_block) (h b (.inBlock id::k) cs Z hF (hO.cons (by trivial)) hb fun e a' w' q=> ?_)
 cases e with
 |normal=>exact ToE.ctl hP (hO.cons (by trivial)).fit ⟨rfl,rfl⟩ (fun w=>step_inBlock) (hc _ _ _ q)
 |exit a1 =>
  by_cases a0:a1 =id
  ·simp only[Exit.inBlock,a0,if_true]at q
   exact⟨k,by simp[exitTo,a0],hc _ _ _ q⟩
  ·simp only[Exit.inBlock,a0,if_false]at q
   obtain⟨k',a2,hg⟩:=hc _ _ _ q;have:(id==a1)=false:=by simp;exact fun h=>a0 h.symm
   exact⟨k',by simp[exitTo,this,a2],hg⟩
 |ret=>exact hc _ _ _ q
 |goto l=>exact hc _ _ _ q
 |panic ch=>exact hc _ _ _ q
 |outgrown=>exact hc _ _ _ q
theorem Vf (hP:zH P)(h:Q .normal a w):wpT P fn .skip Q a w:=fun b k cs Z hF hO hb hc=>ToE.ctl hP (hO.cons (by trivial)).fit ⟨rfl,rfl⟩ (fun w=>step_skip) (hc _ _ _ h)
theorem Xj (hP:zH P)(h:Q .ret a w):wpT P fn .ret Q a w:=fun b k cs Z hF hO hb hc=>ToE.ctl hP (hO.cons (by trivial)).fit ⟨rfl,rfl⟩ (fun w=>step_ret) (hc _ _ _ h _ (hO.cons (by trivial)).1)
theorem Vg (hP:zH P){c:Code}(I:Act→eX→Prop)(μ:Act→eX→Nat)(h₀:I a w)(round:∀a w,I a w→wpT P fn c (Exit.then (fun a' w' =>I a' w' ∧μ a' w' <μ a w) Q) a w):wpT P fn (.loop c) Q a w:=by
 intro b k cs Z hF hO hb hc;have key:∀n a w,μ a w=n→I a w→ToE P Z (G (b.at a (.code c:: .inLoop c::k)) cs) w:=by
  intro n;induction n using Nat.strongRecOn with
  |_ n ih=>
   intro a w hn hI;refine round a w hI b (.inLoop c::k) cs Z hF (hO.cons (by trivial)) hb fun e a' w' q=> ?_
   cases e with
   |normal=>exact ToE.ctl hP (hO.cons (by trivial)).fit ⟨rfl,rfl⟩ (fun w=>step_inLoop) (ih (μ a' w') (hn▸q.2) a' w' rfl q.1)
   |exit id=>exact(hc _ _ _ q).push rfl (by simp)
   |ret=>exact(hc _ _ _ q).push (x:= .inLoop c) rfl (by simp)
   |goto l=>exact hc _ _ _ q
   |panic ch=>exact hc _ _ _ q
   |outgrown=>exact hc _ _ _ q
 exact ToE.ctl hP (hO.cons (by trivial)).fit ⟨rfl,rfl⟩ (fun w=>step_loop) (key _ a w rfl h₀)
theorem yt (hP:zH P){id:Nat}{ops:Array Oper}(h:qQ P fn ops (List.range ops.size) Q a w):wpT P fn (.region id ops false) Q a w:=
 fun b k cs Z hF hO hb hc=>ToE.ctl hP (hO.cons (by trivial)).fit ⟨rfl,rfl⟩ (fun w=>step_region) (h b k cs Z hF hO hb hc)
theorem yU (hP:zH P){ops:Array Oper}(h:Q .normal a w):qQ P fn ops [] Q a w:=
 fun b k cs Z hF hO hb hc=>ToE.ctl hP (hO.cons (by trivial)).fit ⟨rfl,rfl⟩ (fun w=>step_region_end) (hc _ _ _ h)
theorem bf {ops:Array Oper}{M:Act→eX→Prop}(l2:List Nat)(l1:List Nat):∀(a:Act) (w:eX),wpOps P ops (fun e a w=>e= .normal∧M a w) l1 a w→∀(b:iK) (k:List Item) (cs:List iK),
  ∃a' w',M a' w' ∧Steps P (lone (b.at a (.inRegion ops (l1++l2)::k)) cs w) (lone (b.at a' (.inRegion ops l2::k)) cs w'):=by
 induction l1 with
 |nil=>exact fun a w h b k cs=>⟨a,w,h.2,0,rfl⟩
 |cons i rest ih=>
  intro a w h b k cs;simp only[wpOps]at h
  cases ho:ops[i]? with
  |none=>
   simp only[ho]at h;obtain⟨a',w',hq,hs⟩:=ih a w h b k cs;have hk:=step_op_skip (P:=P) (b:=b) (a:=a) (k:=k) (cs:=cs) (w:=w) (ops:=ops) (i:=i) (rest:=rest++l2) (by simp[ho]);simp only[ho,Option.bind_none,Act.put]at hk;exact⟨a',w',hq,.head hk hs⟩
  |some o=>
   simp only[ho]at h;by_cases hw:Region.wanted o (yielded ops a.tmps)=true
   ·simp only[hw,if_true]at h
    rcases h with h|⟨_,_,_,hx,_⟩
    case inr=>cases hx
    have hg:=stepG_op (P:=P) (b:=b) (k:=k) (cs:=cs) (w:=w) (rest:=rest++l2) ho hw;have a2:∀v,(b.at a (.inRegion ops (i::(rest++l2))::k)).finish v=b.at (a.put o.dst v) (.inRegion ops (rest++l2)::k):=by
     intro v;rw[mI,ho];rfl
    unfold Oper.wp Oper.upon at h;split at h
    ·rename_i v w' hr
     obtain⟨a',a4,hq,hs⟩:=ih _ _ h b k cs;refine⟨a',a4,hq,.head (step_lone_go ?_) hs⟩;rw[mJ,hg,←a2];simp[stepG.apply,hr]
    ·rename_i w' hr
     obtain⟨a',a4,hq,hs⟩:=ih _ _ h b k cs;refine⟨a',a4,hq,.head (step_lone_go ?_) hs⟩;rw[mJ,hg,←a2];simp[stepG.apply,hr]
    ·rename_i d w' hr
     obtain⟨a',a4,hq,hs⟩:=ih _ _ h b k cs;refine⟨a',a4,hq,.head (step_lone_go ?_) hs⟩;have:({b.at a (.inRegion ops (i::(rest++l2))::k)with defers:=d::a.defers}:iK).finish lS=b.at ({a with defers:=d::a.defers}.put o.dst lS) (.inRegion ops (rest++l2)::k):=by
      have:=mI b {a with defers:=d::a.defers} ops i (rest++l2) k lS;rw[ho]at this;exact this
     rw[mJ,hg];simp only[stepG.apply,Sem.runT_eq,hr,GStep.bare_after];exact congrArg (fun fr=>GStep.go {frame:=fr,callers:=cs,status:= .running,dying:=none} w') this
    ·rename_i f args w' hr
     obtain⟨e,a4,fr,hR,a1,_,a3⟩:=h (b.at a (.inRegion ops (i::(rest++l2))::k)::cs);have a0:step P (lone (b.at a (.inRegion ops (i::(rest++l2))::k)) cs w)= .next (lone (iM P f args .normal) (b.at a (.inRegion ops (i::(rest++l2))::k)::cs) w'):=
      step_lone_go (by rw[hg];simp[stepG.apply,hr,Frame.at])
     cases e with
     |returned v=>
      obtain⟨a',w₃,hq,hs⟩:=ih _ _ hR b k cs;refine⟨a',w₃,hq,.head a0 (Steps.trans a1 (.head ?_ hs))⟩;rw[←a2];exact step_leave_returned a3
     |panicked a5=>cases hR.1
     |outgrown=>
      obtain⟨_,_,hx,_⟩:=hR
      cases hx
    ·rename_i row args w' hr
     obtain⟨v,a4,hR,a1⟩:=h (b.at a (.inRegion ops (i::(rest++l2))::k)) cs;have a0:step P (lone (b.at a (.inRegion ops (i::(rest++l2))::k)) cs w)= .next (lone (Frame.ofRow P row args .normal) (b.at a (.inRegion ops (i::(rest++l2))::k)::cs) w'):=
      step_lone_go (by rw[hg];simp[stepG.apply,hr,Frame.at])
     obtain⟨a',w₃,hq,hs⟩:=ih _ _ hR b k cs;refine⟨a',w₃,hq,.head a0 (Steps.trans ?_ hs)⟩;rw[←a2];exact a1
    ·cases h.1
    ·exact h.elim
   ·simp only[hw,if_false,Bool.false_eq_true]at h
    obtain⟨a',w',hq,hs⟩:=ih _ _ h b k cs;have hk:=step_op_skip (P:=P) (b:=b) (a:=a) (k:=k) (cs:=cs) (w:=w) (ops:=ops) (i:=i) (rest:=rest++l2) (by simp[ho];simpa using hw);simp only[ho,Option.bind_some]at hk;exact⟨a',w',hq,.head hk hs⟩
theorem Q2 (hP:zH P){ops:Array Oper}(M:Act→eX→Prop)(l1 l2:List Nat)(hM:∀a w T d,M a w→M a (re w T d))(h:∀T d,wpOps P ops (fun e a w=>e= .normal∧M a w) l1 a (re w T d))(hn:∀a' w',M a' w' →qQ P fn ops l2 Q a' w'):qQ P fn ops (l1++l2) Q a w:=by
 intro b k cs Z hF hO hb hc;refine(ToE.lone (Q:=fun g w' =>∃a',M a' w' ∧g=G (b.at a' (.inRegion ops l2::k)) cs) hP (fun g w T d ⟨a',q,s⟩=>⟨a',hM _ _ T d q,s⟩) (hO.cons (by trivial)).fit fun T d=> ?_).trans fun g w' ⟨⟨a',q,s⟩,hf⟩=> ?_
 ·obtain⟨a',w',q,n,hn⟩:=bf l2 l1 a _ (h T d) b k cs
  exact⟨n,_,w',hn,⟨a',q,rfl⟩,rfl,rfl⟩
 ·subst s
  exact hn a' w' q b k cs Z hF hO hb hc
theorem opsT_call (hP:zH P){ops:Array Oper}{i:Nat}{rest:List Nat}{o:Oper}{f:FuncId}{args:Array eB}{R:eB→eX→Prop}(ho:ops[i]? =some o)(hw:Region.wanted o (yielded ops a.tmps)=true)(hr:∀W,(execOp a.eval o).run P W= .ok (.enter f args) W)(hc:zF P f args w R)(hn:∀v w',R v w' →qQ P fn ops rest Q (a.put o.dst v) w'):qQ P fn ops (i::rest) Q a w:=by
 intro b k cs Z hF hO hb hq;have a1:∀v,(b.at a (.inRegion ops (i::rest)::k)).finish v=b.at (a.put o.dst v) (.inRegion ops rest::k):=by
  intro v;rw[mI,ho];rfl
 have a0:OkK (.inRegion ops (i::rest)::k) cs:=hO.cons (by trivial);refine ToE.ctl (g' :=G (iM P f args .normal) (b.at a (.inRegion ops (i::rest)::k)::cs)) hP a0.fit ⟨rfl,rfl⟩ (fun W=> ?_) (hc _ _ Z a0.1 a0.2 fun v w' hv=> ?_)
 ·exact step_lone_go (by rw[stepG_op ho hw];simp[stepG.apply,hr,Frame.at])
 ·rw[a1]
  exact hn v w' hv b k cs Z hF hO hb hq
theorem zF.mono {f:FuncId}{args:Array eB}{R R' :eB→eX→Prop}(h:zF P f args w R)(hr:∀v w',R v w' →R' v w'):zF P f args w R' :=fun c cs Z hc a0 hn=>h c cs Z hc a0 fun v w' hv=>hn v w' (hr _ _ hv)
theorem callsT_lone (hP:zH P){f:FuncId}{args:Array eB}{R:eB→eX→Prop}(hR:∀v w T d,R v w→R v (re w T d))(h:∀T d,Calls P f args (re w T d) fun e w' =>∃v,e= .returned v∧R v w'):zF P f args w R:=by
 intro c cs Z hc a2 hn;have a0 :∀f∈c::cs,zO f:=fun f hf=>by
  rcases iT.1 hf with rfl|hf
  ·exact hc
  ·exact a2 f hf
 refine(ToE.lone (Q:=fun g w' =>∃v,R v w' ∧g=G (c.finish v) cs) hP (fun g w T d ⟨v,q,s⟩=>⟨v,hR _ _ T d q,s⟩) ⟨⟨yx f args .normal,a0,fun d hd=>by cases hd⟩,rfl,rfl⟩ fun T d=> ?_).trans fun g w' ⟨⟨v,q,s⟩,_⟩=> ?_
 ·obtain⟨e,w',fr,⟨v,rfl,hv⟩,a1,_,hl⟩:=h T d (c::cs)
  obtain⟨n,hn⟩:=Steps.trans a1 (.one (step_leave_returned hl));exact⟨n,_,w',hn,⟨v,hv,rfl⟩,rfl,rfl⟩
 ·subst s
  exact hn v w' q
def zZ (P:eA)(fn:Func)(R:eB→eX→Prop):mH→Act→eX→Prop
 | .normal,a,w| .ret,a,w=>a.defers=[]∧∃v,(∀W,(results fn a.tmps).run P W= .ok v W)∧R v w
 |_,_,_=>False
theorem zL (hP:zH P){f:FuncId}{fn:Func}{c:Code}{args:Array eB}{R:eB→eX→Prop}(hf:P.funcs[f]? =some fn)(hb:fn.body=some c)
  (h:wpT P f c (zZ P fn R) {tmps:=args++mL (fn.ntmps-args.size) lS,defers:=[]} w):zF P f args w R:=by
 intro c0 cs Z hc a4 hn;have a1 :∀f∈c0::cs,zO f:=fun f hf=>by
  rcases iT.1 hf with rfl|hf
  ·exact hc
  ·exact a4 f hf
 have a2:iM P f args .normal=({(default:iK)with fn:=f,kind:= .normal}:iK).at {tmps:=args++mL (fn.ntmps-args.size) lS,defers:=[]} [.code c]:=by
  simp[iM,Frame.at,hf,hb]
 rw[a2];have a0:∀(a' :Act) (w' :eX) (todo:List Item),(∀x∈todo,Xw x)→(a'.defers=[]∧∃v,(∀W,(results fn a'.tmps).run P W= .ok v W)∧R v w')→
   ToE P Z (G {({(default:iK)with fn:=f,kind:= .normal}:iK).at a' todo with mode:= .returning} (c0::cs)) w' :=by
  rintro a' w' todo a3 ⟨hd,v,hr,hp⟩;exact ToE.ctl hP (OkK.fitR ⟨a3,a1⟩) ⟨rfl,rfl⟩ (fun W=>step_leave_returned ⟨rfl,hd,rfl,fn,hf,hr W⟩) (hn v w' hp)
 refine h _ [] (c0::cs) Z rfl ⟨fun _ hx=>(by cases hx),a1⟩ (by simp) fun e a' w' q=> ?_
 cases e with
 |normal=>exact ToE.ctl (g' :=G {({(default:iK)with fn:=f,kind:= .normal}:iK).at a' []with mode:= .returning} (c0::cs)) hP (OkK.fit ⟨fun _ hx=>(by cases hx),a1⟩) ⟨rfl,rfl⟩ (fun w=>step_end) (a0 a' w' [] (fun _ hx=>by cases hx) q)
 |ret=>exact fun todo a3=>a0 a' w' todo a3 q
 |exit id=>exact q.elim
 |goto l=>exact q.elim
 |panic ch=>exact q.elim
 |outgrown=>exact q.elim
end
