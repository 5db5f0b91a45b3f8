import Derived.Test.YtolgebdmffcemaaGreatDoorQ05
import Derived.Conc.CrowdComm
set_option linter.all false
set_option maxHeartbeats 20000000
set_option maxRecDepth 1000000
open Nat renaming le_refl→eP,le_of_lt→lC,lt_of_lt_of_le→lE,eq_zero_or_pos→iN,lt_succ_self→iY,not_lt_zero→lJ
open Go.Trace renaming g?→iZ,act?→lA
open Option renaming map_eq_some_iff→iH,map_some→iS
open Array renaming mem_map→iQ,append_assoc→lD,getElem?_eq_some_iff→iL,getElem?_setIfInBounds_ne→iO,getElem?_map→iR,mem_iff_getElem→iM,getElem?_eq_getElem→iP,getElem?_setIfInBounds_self_of_lt→lG,size_setIfInBounds→lH,size_map→lI
open List renaming mem_toArray→lB,mem_cons→iC,not_mem_nil→iI
open Go.World renaming setChan→lF
namespace Go.Proofs.YtolgebdmffcemaaGreatDoor
open Go Go.Conc
abbrev Blk:=Nat→Prop
structure Rel (Old A:Blk)(w w1:World):Prop where
 tape:w1.tape=w.tape
 os:w1.os=w.os
 output:w1.output=w.output
 size:w.heap.size≤w1.heap.size
 own:∀b,A b∨Old b→w1.heap[b]? =w.heap[b]?
def EvO (Old A:Blk)(e:Event):Prop:=
 (∃a:Addr,e.loc= .cell a∧(A a.block∨(e.write=false∧Old a.block)))∨(∃m,e.loc= .mark m∧Neutral m)∨(∃c,e=⟨.obj c,false,true⟩)
structure yK (Old A A' :Blk)(w w' :World)(es:Array Event):Prop where
 tape:w'.tape=w.tape
 os:w'.os=w.os
 output:w'.output=w.output
 size:w.heap.size≤w'.heap.size
 keep:∀b,A b→A' b
 new:∀b,A' b→A b∨(w.heap.size≤b∧b<w'.heap.size)
 rest:∀b,b<w.heap.size→¬A b→w'.heap[b]? =w.heap[b]?
 evs:∀e∈es,EvO Old A' e
theorem Rel.refl (Old A:Blk)(w:World):Rel Old A w w:=⟨rfl,rfl,rfl,eP _,fun _ _=>rfl⟩
theorem Rel.trans {Old A:Blk}{a b c:World}(h:Rel Old A a b)(h' :Rel Old A b c):Rel Old A a c:=
 ⟨h'.tape.trans h.tape,h'.os.trans h.os,h'.output.trans h.output,Nat.le_trans h.size h'.size,fun k hk=>(h'.own k hk).trans (h.own k hk)⟩
theorem Rel.at (Old A:Blk)(w:World)(d:Nat):Rel Old A w (w.at d):=⟨rfl,rfl,rfl,eP _,fun _ _=>rfl⟩
def OW (P:Program)(main:Bool)(Old:Blk)(Q:Blk→Goroutine→World→Prop)(A:Blk)(g:Goroutine)(w:World):Prop:=
 ∀S:Blk→Goroutine→World→Prop,(∀A g w,(∀w1,Rel Old A w w1→Q A g w1)→S A g w)→
  (∀(A:Blk) (g:Goroutine) (w:World) (f:World→Goroutine) (v:World→World) (e:World→Array Event) (B:World→Blk),g.status= .running→
   (∀w1,Rel Old A w w1→stepG P main g w1= .go (f w1) (v w1) (e w1)∧yK Old A (B w1) w1 (v w1) (e w1))→(∀w1,Rel Old A w w1→S (B w1) (f w1) (v w1))→S A g w)→S A g w
section
variable {P:Program}{main:Bool}{Old:Blk}{Q:Blk→Goroutine→World→Prop}
theorem OW.stop {A:Blk}{g:Goroutine}{w:World}(h:∀w1,Rel Old A w w1→Q A g w1):OW P main Old Q A g w:=fun _ a _=>a A g w h
theorem OW.step {A:Blk}{g:Goroutine}{w:World}(f:World→Goroutine)(v:World→World)(e:World→Array Event)(B:World→Blk)(hs:g.status= .running)
  (h1:∀w1,Rel Old A w w1→stepG P main g w1= .go (f w1) (v w1) (e w1)∧yK Old A (B w1) w1 (v w1) (e w1))(h2:∀w1,Rel Old A w w1→OW P main Old Q (B w1) (f w1) (v w1)):OW P main Old Q A g w:=
 fun S a b=>b A g w f v e B hs h1 fun w1 hr=>h2 w1 hr S a b
theorem OW.ind {a0:∀(A:Blk) (g:Goroutine) (w:World),OW P main Old Q A g w→Prop}
  (stop:∀{A:Blk} {g:Goroutine} {w:World} (h:∀w1,Rel Old A w w1→Q A g w1),a0 A g w (.stop h))
  (step:∀{A:Blk} {g:Goroutine} {w:World} (f:World→Goroutine) (v:World→World) (e:World→Array Event) (B:World→Blk) (hs:g.status= .running)
   (h1:∀w1,Rel Old A w w1→stepG P main g w1= .go (f w1) (v w1) (e w1)∧yK Old A (B w1) w1 (v w1) (e w1)) (h2:∀w1,Rel Old A w w1→OW P main Old Q (B w1) (f w1) (v w1)),(∀w1 hr,a0 (B w1) (f w1) (v w1) (h2 w1 hr))→a0 A g w (.step f v e B hs h1 h2))
  {A:Blk}{g:Goroutine}{w:World}(h:OW P main Old Q A g w):a0 A g w h:=
 (h (fun A g w=>∃x:OW P main Old Q A g w,a0 A g w x) (fun _ _ _ q=>⟨.stop q,stop q⟩) (fun _ _ _ f v e B hs h1 k=>⟨.step f v e B hs h1 fun w1 hr=>(k w1 hr).1,step f v e B hs h1 _ fun w1 hr=>(k w1 hr).2⟩)).2
end
section
variable {P:Program}{main:Bool}{Old:Blk}{Q:Blk→Goroutine→World→Prop}{A:Blk}{g:Goroutine}{w:World}
theorem OW.rely (h:OW P main Old Q A g w){w1:World}(hr:Rel Old A w w1):OW P main Old Q A g w1:=by
 induction h using OW.ind with
 |stop h=>exact .stop fun w2 h2=>h w2 (hr.trans h2)
 |step f v e B hs h1 h2 _=>exact .step f v e B hs (fun w2 a0=>h1 w2 (hr.trans a0)) (fun w2 a0=>h2 w2 (hr.trans a0))
theorem OW.running (h:OW P main Old Q A g w)(hq:∀A g w,Q A g w→g.status= .running):g.status= .running:=by
 induction h using OW.ind with
 | @stop A g w h=>exact hq _ _ _ (h w (Rel.refl _ _ _))
 |step f v e B hs h1 h2 _=>exact hs
theorem OW.one (hs:g.status= .running)(h:∀w1,Rel Old A w w1→∃g' w' es A',stepG P main g w1= .go g' w' es∧yK Old A A' w1 w' es∧OW P main Old Q A' g' w'):OW P main Old Q A g w:=by
 classical
 have h' :∀w1:World,∃x:Goroutine×World×Array Event×Blk,Rel Old A w w1→stepG P main g w1= .go x.1 x.2.1 x.2.2.1∧yK Old A x.2.2.2 w1 x.2.1 x.2.2.1∧OW P main Old Q x.2.2.2 x.1 x.2.1:=by
  intro w1;by_cases hr:Rel Old A w w1
  ·obtain⟨g',w',es,A',h1,h2,h3⟩:=h w1 hr
   exact⟨(g',w',es,A'),fun _=>⟨h1,h2,h3⟩⟩
  ·exact⟨(g,w,#[],A),fun x=>absurd x hr⟩
 obtain⟨f,hf⟩:=Classical.axiomOfChoice h';exact .step (fun x=>(f x).1) (fun x=>(f x).2.1) (fun x=>(f x).2.2.1) (fun x=>(f x).2.2.2) hs (fun w1 hr=>⟨(hf w1 hr).1,(hf w1 hr).2.1⟩) (fun w1 hr=>(hf w1 hr).2.2)
theorem yK.idle (Old A:Blk)(w:World):yK Old A A w w #[]:=⟨rfl,rfl,rfl,eP _,fun _ h=>h,fun _ h=> .inl h,fun _ _ _=>rfl,by simp⟩
theorem OW.ctl {g' :Goroutine}(hs:g.status= .running)(h:∀w1,stepG P main g w1= .go g' w1)(h' :OW P main Old Q A g' w):OW P main Old Q A g w:=
 .one hs fun w1 hr=>⟨g',w1,#[],A,h w1,yK.idle _ _ _,h'.rely hr⟩
end
section
variable (P:Program)(Old:Blk)(c:Nat)
def uK (z:Value)(A:Blk)(g:Goroutine)(w:World):Prop:=
 g.status= .running∧∃es,stepG P true g w= .comm (core g) #[rcase c z] true (.recv true) w es∧∀e∈es,EvO Old A e
def Rcv (z:Value)(Fin:Blk→Goroutine→World→Prop):List Value→Blk→Goroutine→World→Prop
 |[],A,g,w=>OW P true Old (fun A g w=>uK P Old c z A g w∧∀w2,Rel Old A w w2→Fin A (Conc.served (core g) (.tuple #[z,.bool false])) w2) A g w
 |v::vs,A,g,w=>OW P true Old (fun A g w=>uK P Old c z A g w∧∀w2,Rel Old A w w2→Rcv z Fin vs A (Conc.served (core g) (.tuple #[v,.bool true])) w2) A g w
def bQ (v:Value)(Next:Goroutine→World→Prop)(A:Blk)(g:Goroutine)(w:World):Prop:=
 g.status= .running∧∃g2 z es,stepG P false g w= .comm g2 #[scase c v z] true .send w es∧(∀e∈es,EvO Old A e)∧∀w2,Rel Old A w w2→Next (Conc.served g2 undef) w2
def Cd (A:Blk)(g:Goroutine)(w:World):Prop:=
 g.status= .running∧mayWake P g=true∧∃(g2:Goroutine) (es:Array Event) (n:Nat),(∀s r tm,w.heap[c]? =some (.chan 0 #[] false s r tm)→stepG P false g w= .go g2 (w.shut c s r tm) (es.push ⟨.obj c,true,true⟩))∧
  (∀e∈es,EvO Old A e)∧QuitsIn P n g2
def Snd:List Value→Blk→Goroutine→World→Prop
 |[],A,g,w=>OW P false Old (fun A g w=>Cd P Old c A g w) A g w
 |v::vs,A,g,w=>OW P false Old (fun A g w=>bQ P Old c v (Snd vs A) A g w) A g w
def Yi (z:Value)(Fin:Blk→Goroutine→World→Prop):List Value→Blk→Goroutine→World→Prop
 |[]=>fun A g w=>uK P Old c z A g w∧∀w2,Rel Old A w w2→Fin A (Conc.served (core g) (.tuple #[z,.bool false])) w2
 |v::vs=>fun A g w=>uK P Old c z A g w∧∀w2,Rel Old A w w2→Rcv P Old c z Fin vs A (Conc.served (core g) (.tuple #[v,.bool true])) w2
def qC:List Value→Blk→Goroutine→World→Prop
 |[]=>fun A g w=>Cd P Old c A g w
 |v::vs=>fun A g w=>bQ P Old c v (Snd P Old c vs A) A g w
theorem xp (z:Value)(Fin:Blk→Goroutine→World→Prop)(vs:List Value)(A:Blk)(g:Goroutine)(w:World):Rcv P Old c z Fin vs A g w↔OW P true Old (Yi P Old c z Fin vs) A g w:=by cases vs<;>exact Iff.rfl
theorem Vl (vs:List Value)(A:Blk)(g:Goroutine)(w:World):Snd P Old c vs A g w↔OW P false Old (qC P Old c vs) A g w:=by cases vs<;>exact Iff.rfl
end
section
variable {P:Program}{Old:Blk}{c:Nat}{z:Value}{Fin:Blk→Goroutine→World→Prop}{vs:List Value}{A:Blk}{g:Goroutine}{w:World}
theorem Yi.at (h:Yi P Old c z Fin vs A g w):uK P Old c z A g w:=by cases vs<;>exact h.1
theorem Yi.run (h:Yi P Old c z Fin vs A g w):g.status= .running:=h.at.1
theorem qC.run (h:qC P Old c vs A g w):g.status= .running:=by cases vs<;>exact h.1
theorem Yi.again (h:Yi P Old c z Fin vs A g w):Yi P Old c z Fin vs A {parked (core g) #[rcase c z] (.recv true)with status:= .running} w:=by
 have e:stepG P true {parked (core g) #[rcase c z] (.recv true)with status:= .running} w=stepG P true g w:=stepG_same rfl rfl rfl w
 cases vs<;>exact let⟨⟨_,es,h1,h2⟩,h3⟩:=h;⟨⟨rfl,es,by rw[e];exact h1,h2⟩,h3⟩
end
def xA (Old A:Blk)(a:Touch):Prop:=
 (∃x:Addr,a.loc= .cell x∧(A x.block∨(a.write=false∧Old x.block)))∨((∃c,a.loc= .obj c)∧a.write=false∧a.kind= .atomic)
structure uL (Old A0 AK:Blk):Prop where
 ok:∀b,A0 b→¬AK b
 o0:∀b,A0 b→¬Old b
 oK:∀b,AK b→¬Old b
structure Mid (Old A0 AK:Blk)(k:Nat)(t:Trace):Prop where
 clean:∀said,¬Race said t
 touch:∀i a,touchAt t i=some a→a.loc.isMemory=true→(Knows t 0 i∧Knows t k i)∨(t.g? i=some 0∧xA Old A0 a)∨(t.g? i=some k∧xA Old AK a)
 over:∀i g,t.g? i=some g→g≠0→g≠k→t.counts i→∃j,t.g? j=some 0∧HappensBefore t i j
 hears0:Deaf t 0=0
 hearsK:Deaf t k=0
section
variable {Old A0 AK A0' AK' :Blk}{k:Nat}{t u:Trace}
theorem xA.mono {A A' :Blk}(h:∀b,A b→A' b){a:Touch}(ha:xA Old A a):xA Old A' a:=ha.imp (fun⟨x,h1,h2⟩=>⟨x,h1,h2.imp (h _) id⟩) id
theorem Kg {X Y:Blk}(a3:∀b,X b→¬Y b)(hX:∀b,X b→¬Old b)(hY:∀b,Y b→¬Old b){a b:Touch}{a0:Bool}(ha:xA Old X a)(hb:xA Old Y b)(hc:a.conflicts a0 b):False:=by
 obtain⟨hl,_,hw,hk⟩:=hc;rcases ha with⟨x,hx,a1⟩|⟨⟨c,hx⟩,a4,a1⟩
 ·rcases hb with⟨y,hy,a2⟩|⟨⟨c,hy⟩,_⟩
  ·rw[hx,hy]at hl
   injection hl with hl
   subst hl;rcases a1 with h1|⟨h1,h2⟩<;>rcases a2 with h3|⟨h3,h4⟩
   ·exact a3 _ h1 h3
   ·exact hX _ h1 h4
   ·exact hY _ h3 h2
   ·rcases hw with hw|hw
    ·rw[h1]at hw;cases hw
    ·rw[h3]at hw;cases hw
  ·rw[hx,hy]at hl;cases hl
 ·rcases hb with⟨y,hy,_⟩|⟨⟨c',hy⟩,a5,a2⟩
  ·rw[hx,hy]at hl;cases hl
  ·rcases hw with hw|hw
   ·rw[a4]at hw;cases hw
   ·rw[a5]at hw;cases hw
theorem fX {A:Blk}{e:Event}(h:EvO Old A e){a:Touch}(ha:(MemAct.ofEvent e).touch? =some a):xA Old A a:=by
 rcases h with⟨x,h1,h3⟩|⟨m,h1,h2⟩|⟨c,rfl⟩
 ·obtain⟨a0,wr,sy⟩:=e
  simp only at h1 h3;subst h1
  cases wr<;>cases sy<;>(injection ha with ha;subst ha;exact .inl ⟨x,rfl,h3⟩)
 ·have:MemAct.ofEvent e= .mark m:=by
   obtain⟨a0,wr,sy⟩:=e;simp only at h1;subst h1
   cases wr<;>cases sy<;>rfl
  rw[this,h2.touch]at ha
  cases ha
 ·injection ha with ha
  subst ha;exact .inr ⟨⟨c,rfl⟩,rfl,rfl⟩
theorem uw {A:Blk}{es:Array Event}(h:∀e∈es,EvO Old A e)(d:Nat):deafBehind d es=d:=deafBehind_still (fun e he=>by
 rcases h e he with⟨x,h1,_⟩|⟨m,h1,h2⟩|⟨c,rfl⟩
 ·rw[h1];exact⟨by simp,by simp⟩
 ·rw[h1];exact⟨fun e=>h2.ne_disable (by injection e),fun e=>h2.ne_enable (by injection e)⟩
 ·exact⟨by simp,by simp⟩) d
theorem Mid.plain (h:Mid Old A0 AK k t)(hu:∀op∈u,op.act.touch? =none∧∀x,op.act≠ .mark x)(hr:∀a3,¬Race a3 (t++u)):Mid Old A0 AK k (t++u):=by
 refine⟨hr,fun i a ha hm=> ?_,fun i g hg h0 hk hc=> ?_,(ZD (fun op a0=>(hu op a0).2) t 0).trans h.hears0,(ZD (fun op a0=>(hu op a0).2) t k).trans h.hearsK⟩
 ·obtain⟨x,hx,a2⟩:=touch_of ha
  rcases getElem?_append_cases hx with⟨hi,a7⟩|⟨_,a8⟩
  ·rcases h.touch i a (by rw[touchAt_of a7];exact a2) hm with h1|h1|h1
   ·exact .inl ⟨h1.1.app u,h1.2.app u⟩
   ·exact .inr (.inl ⟨by simpa[iZ,getElem?_append_old hi]using h1.1,h1.2⟩)
   ·exact .inr (.inr ⟨by simpa[iZ,getElem?_append_old hi]using h1.1,h1.2⟩)
  ·rw[(hu x a8).1]at a2;cases a2
 ·obtain⟨x,hx,_⟩:=hc
  obtain⟨op,a0,a4⟩:=touch_of hx;rcases getElem?_append_cases a0 with⟨hi,a6⟩|⟨_,a1⟩
  ·obtain⟨j,hj,hb⟩:=h.over i g (by simpa[iZ,getElem?_append_old hi]using hg) h0 hk ((counts_old hi).1 ⟨x,hx, ‹_›⟩)
   have a5:j<t.size:=by
    unfold iZ at hj;obtain⟨y,hy,_⟩:=iH.1 hj;exact lt_size_of_getElem? hy
   exact⟨j,by simpa[iZ,getElem?_append_old a5]using hj,hb_app u hb⟩
  ·rw[(hu op a1).1]at a4;cases a4
theorem qj {a0:Bool}(h:¬Race a0 t)(hu:∀op∈u,op.act.touch? =none):¬Race a0 (t++u):=by
 rintro⟨i,j,a2,⟨a,b,ha,hb,hc⟩,n1,n2⟩;obtain⟨x,hx,a4⟩:=touch_of ha;obtain⟨y,hy,a1⟩:=touch_of hb;rcases getElem?_append_cases hy with⟨hj,a5⟩|⟨hj,a6⟩
 ·have hi:i<t.size:=Nat.lt_trans a2 hj
  have a3 :t[i]? =some x:=by rw[←getElem?_append_old (u:=u) hi];exact hx
  exact h ⟨i,j,a2,⟨a,b,by simp[lA,a3,a4],by simp[lA,a5,a1],hc⟩,fun e=>n1 (hb_app u e),fun e=>n2 (hb_app u e)⟩
 ·rw[hu y a6]at a1;cases a1
theorem Mid.comm (h:Mid Old A0 AK k t)(hu:∀op∈u,op.act.touch? =none∧∀x,op.act≠ .mark x):Mid Old A0 AK k (t++u):=h.plain hu fun a0=>qj (h.clean a0) fun op a1=>(hu op a1).1
theorem Mid.step (h:Mid Old A0 AK k t){me:Nat}(a2:me=0∨me=k)(hk:k≠0)(hp:uL Old A0' AK')(h0:∀b,A0 b→A0' b)(hK:∀b,AK b→AK' b){fn:FuncId}{pos:String}{es:Array Event}(he:∀e∈es,EvO Old (if me=0 then A0' else AK') e):Mid Old A0' AK' k (t++MemOp.ofEvents me fn pos es):=by
 have hg:∀op∈MemOp.ofEvents me fn pos es,op.g=me:=fun op a0=>by
  rw[ofEvents_eq]at a0;obtain⟨e,_,rfl⟩:=iQ.1 a0;rfl
 have ht:∀op∈MemOp.ofEvents me fn pos es,∀b,op.act.touch? =some b→xA Old (if me=0 then A0' else AK') b:=fun op a0 b hb=>by
  rw[ofEvents_eq]at a0;obtain⟨e,b3,rfl⟩:=iQ.1 a0;exact fX (he e b3) hb
 refine⟨fun a7=>noRace_append (h.clean a7) hg fun i a ha op a0 b hb hc=> ?_,fun i a ha hm=> ?_,fun i g a9 a8 b1 hc=> ?_,?_,?_⟩
 ·have a1 :=ht op a0 b hb
  rcases h.touch i a ha hc.2.1 with h1|⟨h1,h2⟩|⟨h1,h2⟩
  ·rcases a2 with rfl|rfl
   ·exact h1.1
   ·exact h1.2
  ·by_cases hz:me=0
   ·obtain⟨z,a5,a6⟩:=iH.1 h1
    have:=knows_own a5;rw[a6]at this;rw[hz];exact this
   ·rw[if_neg hz]at a1
    exact(Kg hp.ok hp.o0 hp.oK (h2.mono h0) a1 hc).elim
  ·by_cases hz:me=0
   ·rw[if_pos hz]at a1
    exact(Kg (fun b h1 h2=>hp.ok b h2 h1) hp.oK hp.o0 (h2.mono hK) a1 hc).elim
   ·have b5:me=k:=a2.resolve_left hz
    obtain⟨z,a5,a6⟩:=iH.1 h1;have:=knows_own a5;rw[a6]at this;rw[b5];exact this
 ·obtain⟨x,hx,b2⟩:=touch_of ha
  rcases getElem?_append_cases hx with⟨hi,b7⟩|⟨_,a4⟩
  ·rcases h.touch i a (by rw[touchAt_of b7];exact b2) hm with h1|h1|h1
   ·exact .inl ⟨h1.1.app _,h1.2.app _⟩
   ·exact .inr (.inl ⟨by simpa[iZ,getElem?_append_old hi]using h1.1,h1.2.mono h0⟩)
   ·exact .inr (.inr ⟨by simpa[iZ,getElem?_append_old hi]using h1.1,h1.2.mono hK⟩)
  ·have a1 :=ht x a4 a b2
   by_cases hz:me=0
   ·rw[if_pos hz]at a1
    exact .inr (.inl ⟨by unfold iZ;rw[hx];exact congrArg some ((hg x a4).trans hz),a1⟩)
   ·rw[if_neg hz]at a1
    exact .inr (.inr ⟨by unfold iZ;rw[hx];exact congrArg some ((hg x a4).trans (a2.resolve_left hz)),a1⟩)
 ·obtain⟨x,hx,_⟩:=hc
  obtain⟨op,a0,b8⟩:=touch_of hx;rcases getElem?_append_cases a0 with⟨hi,b6⟩|⟨_,a3⟩
  ·obtain⟨j,hj,hb⟩:=h.over i g (by simpa[iZ,getElem?_append_old hi]using a9) a8 b1 ((counts_old hi).1 ⟨x,hx, ‹_›⟩)
   have b4:j<t.size:=by
    unfold iZ at hj;obtain⟨y,hy,_⟩:=iH.1 hj;exact lt_size_of_getElem? hy
   exact⟨j,by simpa[iZ,getElem?_append_old b4]using hj,hb_app _ hb⟩
  ·exfalso
   have:g=me:=by
    have:=hg op a3;simpa[iZ,a0,this]using a9.symm
   rcases a2 with e|e
   ·exact a8 (this.trans e)
   ·exact b1 (this.trans e)
 ·rcases a2 with rfl|rfl
  ·rw[Deaf_own,uw he];exact h.hears0
  ·rw[Deaf_other t hk _ hg];exact h.hears0
 ·rcases a2 with rfl|rfl
  ·rw[Deaf_other t (fun e=>hk e.symm) _ hg];exact h.hearsK
  ·rw[Deaf_own,uw he];exact h.hearsK
theorem Mid.mute (h:Mid Old A0 AK k t){g:Nat}(h0:g≠0)(hk:g≠k){fn:FuncId}{pos:String}{es:Array Event}(hm:∀e∈es,e.mute=true):Mid Old A0 AK k (t++MemOp.ofEvents g fn pos es):=by
 have hg:∀op∈MemOp.ofEvents g fn pos es,op.g=g∧op.act.touch? =none:=fun op a0=>by
  rw[ofEvents_eq]at a0;obtain⟨e,he,rfl⟩:=iQ.1 a0;exact⟨rfl,touch_mute (hm e he)⟩
 refine⟨fun a3=>qj (h.clean a3) fun op a0=>(hg op a0).2,fun i a ha hm=> ?_,fun i g' a6 a5 a8 hc=> ?_,?_,?_⟩
 ·obtain⟨x,hx,a2⟩:=touch_of ha
  rcases getElem?_append_cases hx with⟨hi,b1⟩|⟨_,b2⟩
  ·rcases h.touch i a (by rw[touchAt_of b1];exact a2) hm with h1|h1|h1
   ·exact .inl ⟨h1.1.app _,h1.2.app _⟩
   ·exact .inr (.inl ⟨by simpa[iZ,getElem?_append_old hi]using h1.1,h1.2⟩)
   ·exact .inr (.inr ⟨by simpa[iZ,getElem?_append_old hi]using h1.1,h1.2⟩)
  ·rw[(hg x b2).2]at a2;cases a2
 ·obtain⟨x,hx,_⟩:=hc
  obtain⟨op,a0,a4⟩:=touch_of hx;rcases getElem?_append_cases a0 with⟨hi,a9⟩|⟨_,a1⟩
  ·obtain⟨j,hj,hb⟩:=h.over i g' (by simpa[iZ,getElem?_append_old hi]using a6) a5 a8 ((counts_old hi).1 ⟨x,hx, ‹_›⟩)
   have a7:j<t.size:=by
    unfold iZ at hj;obtain⟨y,hy,_⟩:=iH.1 hj;exact lt_size_of_getElem? hy
   exact⟨j,by simpa[iZ,getElem?_append_old a7]using hj,hb_app _ hb⟩
  ·rw[(hg op a1).2]at a4;cases a4
 ·rw[Deaf_other t h0 _ (fun op a0=>(hg op a0).1)];exact h.hears0
 ·rw[Deaf_other t hk _ (fun op a0=>(hg op a0).1)];exact h.hearsK
theorem Uy {i:Nat}{op:MemOp}(h:t[i]? =some op):t.g? i=some op.g:=by unfold iZ;rw[h];rfl
theorem UN {i:Nat}{op:MemOp}(h:t[i]? =some op):t.act? i=some op.act:=by unfold lA;rw[h];rfl
theorem Mid.fork (hk:k≠0)(h:YZ t)(hd:Deaf t k=0)(fn a2 :FuncId)(pos a0 :String):Mid Old (fun _=>False) (fun _=>False) k (t++ #[{g:=0,fn:=fn,pos:=pos,act:= .go k},{g:=k,fn:=a2,pos:=a0,act:= .start}]):=by
 obtain⟨B,h⟩:=h;have hu:∀op∈(#[{g:=0,fn:=fn,pos:=pos,act:= .go k},{g:=k,fn:=a2,pos:=a0,act:= .start}]:Array MemOp),op.act.touch? =none∧∀x,op.act≠ .mark x:=by
  intro op a1;simp only[lB,iC,iI,or_false]at a1;rcases a1 with rfl|rfl
  all_goals
   exact⟨rfl,fun x h=>by cases h⟩
 have e0:(t++ #[({g:=0,fn:=fn,pos:=pos,act:= .go k}:MemOp),{g:=k,fn:=a2,pos:=a0,act:= .start}])[t.size]? =some {g:=0,fn:=fn,pos:=pos,act:= .go k}:=by simp
 have e1:(t++ #[({g:=0,fn:=fn,pos:=pos,act:= .go k}:MemOp),{g:=k,fn:=a2,pos:=a0,act:= .start}])[t.size+1]? =some {g:=k,fn:=a2,pos:=a0,act:= .start}:=by simp
 have d0:(t++ #[({g:=0,fn:=fn,pos:=pos,act:= .go k}:MemOp),{g:=k,fn:=a2,pos:=a0,act:= .start}]).deaf 0 t.size=0:=(deaf_old (eP _)).trans h.hears;have d1:(t++ #[({g:=0,fn:=fn,pos:=pos,act:= .go k}:MemOp),{g:=k,fn:=a2,pos:=a0,act:= .start}]).deaf k (t.size+1)=0:=by
  rw[deaf_succ e0];show deafStep k _ _=0;unfold deafStep;simp only;exact(deaf_old (eP _)).trans hd
 refine⟨fun a5=>qj (h.clean a5) fun op a1=>(hu op a1).1,fun i a ha hm=> ?_,fun i g hg h0 b4 hc=> ?_,(ZD (fun op a1=>(hu op a1).2) t 0).trans h.hears,(ZD (fun op a1=>(hu op a1).2) t k).trans hd⟩
 ·obtain⟨x,hx,a4⟩:=touch_of ha
  rcases getElem?_append_cases hx with⟨hi,b2⟩|⟨_,b3⟩
  ·have a6:Knows t 0 i:=(h.known i a (by rw[touchAt_of b2];exact a4) hm).resolve_right (fun x=>x.1)
   refine .inl ⟨a6.app _,?_⟩;have hb:HappensBefore _ i t.size:=a6.hb_new (u:= #[{g:=0,fn:=fn,pos:=pos,act:= .go k},{g:=k,fn:=a2,pos:=a0,act:= .start}]) (eP _) e0 rfl;have a8:HappensBefore _ t.size (t.size+1):= .single (.inr ⟨.spawn (child:=k) (UN e0) (UN e1) (Uy e1),⟨0,Uy e0,d0⟩,⟨k,Uy e1,d1⟩⟩);exact⟨t.size+1,_,e1,rfl,.inr (hb.trans a8)⟩
  ·rw[(hu x b3).1]at a4;cases a4
 ·obtain⟨x,hx,_⟩:=hc
  obtain⟨op,a1,a7⟩:=touch_of hx;rcases getElem?_append_cases a1 with⟨hi,b1⟩|⟨_,a3⟩
  ·obtain⟨j,hj,hb⟩:=h.over i g (by simpa[iZ,getElem?_append_old hi]using hg) h0 ((counts_old hi).1 ⟨x,hx, ‹_›⟩)
   have a9:j<t.size:=by
    unfold iZ at hj;obtain⟨y,hy,_⟩:=iH.1 hj;exact lt_size_of_getElem? hy
   exact⟨j,by simpa[iZ,getElem?_append_old a9]using hj,hb_app _ hb⟩
  ·rw[(hu op a3).1]at a7;cases a7
structure US (Old A0 AK:Blk)(k c:Nat)(t:Trace)(pc:Nat):Prop where
 mid:Mid Old A0 AK k t
 close:∃op,t[pc]? =some op∧op.g=k∧op.act= .close c
 heard:t.deaf k pc=0
 last:∀i op,t[i]? =some op→op.g=k→op.act.touch?≠none→i<pc
theorem US.grow {c pc:Nat}(h:US Old A0 AK k c t pc)(hm:Mid Old A0' AK k (t++u))(hu:∀op∈u,op.g=k→op.act.touch? =none):US Old A0' AK k c (t++u) pc:=by
 obtain⟨op,h1,h2,h3⟩:=h.close;have hl:=lt_size_of_getElem? h1;refine⟨hm,⟨op,by rw[getElem?_append_old hl];exact h1,h2,h3⟩,(deaf_old (lC hl)).trans h.heard,fun i x hx hg ht=> ?_⟩;rcases getElem?_append_cases hx with⟨_,a0⟩|⟨_,a1⟩
 ·exact h.last i x a0 hg ht
 ·exact absurd (hu x a1 hg) ht
theorem US.new {c:Nat}(h:Mid Old A0 AK k t)(hk:k≠0)(hp:uL Old A0 AK){fn:FuncId}{pos:String}{es:Array Event}(he:∀e∈es,EvO Old AK e):∃pc,US Old A0 AK k c (t++MemOp.ofEvents k fn pos (es.push ⟨.obj c,true,true⟩)) pc:=by
 have e1:MemOp.ofEvents k fn pos (es.push ⟨.obj c,true,true⟩)=MemOp.ofEvents k fn pos es++ #[{g:=k,fn:=fn,pos:=pos,act:= .close c}]:=by
  rw[ofEvents_push,Array.push_eq_append];rfl
 have h1:Mid Old A0 AK k (t++MemOp.ofEvents k fn pos es):=h.step (.inr rfl) hk hp (fun _ h=>h) (fun _ h=>h) (by rw[if_neg hk];exact he);have h2:Mid Old A0 AK k (t++MemOp.ofEvents k fn pos es++ #[{g:=k,fn:=fn,pos:=pos,act:= .close c}]):=h1.comm (by
  intro op a0;simp only[lB,iC,iI,or_false]at a0;subst a0;exact⟨rfl,fun x h=>by cases h⟩)
 refine⟨(t++MemOp.ofEvents k fn pos es).size,?_⟩;rw[e1,←lD];refine⟨h2,⟨{g:=k,fn:=fn,pos:=pos,act:= .close c},by simp,rfl,rfl⟩,(deaf_old (eP _)).trans h1.hearsK,fun i x hx hg ht=> ?_⟩;rcases getElem?_append_cases hx with⟨hi,_⟩|⟨_,a1⟩
 ·exact hi
 ·simp only[lB,iC,iI,or_false]at a1
  subst a1;exact absurd rfl ht
theorem US.done {c pc:Nat}(h:US Old A0 AK k c t pc)(hk:k≠0)(fn:FuncId)(pos:String):YZ (t++ #[{g:=0,fn:=fn,pos:=pos,act:= .recvClosed c}]):=by
 obtain⟨cl,a4,a5,a9⟩:=h.close;have a6:=lt_size_of_getElem? a4;have hm:Mid Old A0 AK k (t++ #[{g:=0,fn:=fn,pos:=pos,act:= .recvClosed c}]):=h.mid.comm (by
  intro op a2;simp only[lB,iC,iI,or_false]at a2;subst a2;exact⟨rfl,fun x h=>by cases h⟩)
 have e0:(t++ #[({g:=0,fn:=fn,pos:=pos,act:= .recvClosed c}:MemOp)])[t.size]? =some {g:=0,fn:=fn,pos:=pos,act:= .recvClosed c}:=by simp
 have e1:(t++ #[({g:=0,fn:=fn,pos:=pos,act:= .recvClosed c}:MemOp)])[pc]? =some cl:=by rw[getElem?_append_old a6];exact a4
 have b1:HappensBefore (t++ #[{g:=0,fn:=fn,pos:=pos,act:= .recvClosed c}]) pc t.size:= .single (.inr ⟨.closed (c:=c) (by rw[UN e1,a9]) (UN e0),⟨k,by rw[Uy e1,a5],(deaf_old (lC a6)).trans h.heard⟩,⟨0,Uy e0,(deaf_old (eP _)).trans h.mid.hears0⟩⟩);have a1:∀i x,(t++ #[({g:=0,fn:=fn,pos:=pos,act:= .recvClosed c}:MemOp)])[i]? =some x→x.g=k→x.act.touch?≠none→HappensBefore (t++ #[{g:=0,fn:=fn,pos:=pos,act:= .recvClosed c}]) i t.size:=by
  intro i x hx hg ht;rcases getElem?_append_cases hx with⟨hi,b3⟩|⟨_,a8⟩
  ·exact(hb_po (h.last i x b3 hg ht) hx e1 (hg.trans a5.symm)).trans b1
  ·simp only[lB,iC,iI,or_false]at a8
   subst a8;exact absurd hg.symm hk
 obtain⟨B,hB⟩:=ud (t++ #[({g:=0,fn:=fn,pos:=pos,act:= .recvClosed c}:MemOp)]).toList;refine⟨B,hm.clean,fun i a ha a3=> .inl ?_,fun i g hg h0 a0=> ?_,hm.hears0,fun op a2=>hB op (by simpa using a2)⟩
 ·obtain⟨x,hx,b4⟩:=touch_of ha
  rcases hm.touch i a ha a3 with h1|h1|h1
  ·exact h1.1
  ·have:=knows_own hx
   rw[Uy hx]at h1;rw[Option.some.inj h1.1]at this;exact this
  ·rw[Uy hx]at h1
   exact⟨t.size,_,e0,rfl,.inr (a1 i x hx (Option.some.inj h1.1) (by rw[b4];simp))⟩
 ·by_cases a7:g=k
  ·obtain⟨x,hx,a3,_⟩:=a0
   obtain⟨op,a2,b2⟩:=touch_of hx;rw[Uy a2]at hg;exact⟨t.size,Uy e0,a1 i op a2 ((Option.some.inj hg).trans a7) (by rw[b2];simp)⟩
  ·exact hm.over i g hg h0 a7 a0
end
open Go.ConcN (sumTo upd sumTo_upd upd_ne upd_same)
structure Env (P:Program)(Old:Blk)(c k:Nat)(A0 AK:Blk)(gs:Array Goroutine)(w:World)(t:Trace)(q:Nat→Nat):Prop where
 k0:k≠0
 ks:k<gs.size
 lv:∀(i:Nat) g,0<i→i≠k→gs[i]? =some g→QuitsD P (q i) (Deaf t i) g
 above:∀j,gs.size≤j→Deaf t j=0
 apart:uL Old A0 AK
 s0:∀b,A0 b→b<w.heap.size
 sK:∀b,AK b→b<w.heap.size
 sO:∀b,Old b→b<w.heap.size
 nc:¬A0 c∧¬AK c∧¬Old c
 ch:∃s r tm,w.heap[c]? =some (.chan 0 #[] false s r tm)
 mid:Mid Old A0 AK k t
def zY (P:Program)(Q:Goroutine→World→Prop)(gs:Array Goroutine)(w:World)(sl:Option (Nat×Nat))(t:Trace):Prop:=
 ∃(N:Nat) (gs' :Array Goroutine) (g' :Goroutine) (w' :World) (sl' :Option (Nat×Nat)) (t' :Trace) (q' :Nat→Nat),
  runNT P N (crowd gs w sl) t=(.next (crowd gs' w' sl'),t')∧gs'[0]? =some g' ∧Q g' w' ∧Leavers P t' gs' q' ∧YZ t'
def K1 (c:Nat)(o:Goroutine):Prop:=(o.status= .running∨o.status= .finished)∨(∃g z sh,o=parked g #[rcase c z] sh)∨∃g v z sh,o=parked g #[scase c v z] sh
section
variable {P:Program}{Old:Blk}{c k:Nat}{A0 AK:Blk}{gs:Array Goroutine}{w:World}{t:Trace}{q:Nat→Nat}{Q:Goroutine→World→Prop}{sl:Option (Nat×Nat)}
theorem K1.woken {o x x' :Goroutine}(h:K1 c o)(hc:∃s r tm,w.heap[c]? =some (.chan 0 #[] false s r tm)):woken P x x' w o=o:=by
 obtain⟨s,r,tm,hc⟩:=hc;unfold Go.Conc.woken;split
 ·rcases h with h|⟨g,z,sh,rfl⟩|⟨g,v,z,sh,rfl⟩
  ·exact again_running _ h
  ·exact again_recv_open hc
  ·exact again_send_open hc
 ·rfl
theorem K1.awake {o:Goroutine}(h:K1 c o):awake o:=by
 rcases h with h|⟨g,z,sh,rfl⟩|⟨g,v,z,sh,rfl⟩
 ·exact awake_of (h.elim .inl fun x=> .inr (.inr x))
 all_goals
  exact awake_of (.inr (.inl rfl))
theorem qr {i:Nat}{x x' :Goroutine}{w' :World}{es:Array Event}(hi:gs[i]? =some x)(h:stepG P (i==0) x w= .go x' w' es)(a0:∀(j:Nat) o,j≠i→gs[j]? =some o→K1 c o)(hc:∃s r tm,w'.heap[c]? =some (.chan 0 #[] false s r tm)):
  ∃gs',runT P (crowd gs w sl) i=(.next (crowd gs' w' sl),MemOp.ofEvents i x.frame.fn x.frame.place es)∧gs'.size=gs.size∧gs'[i]? =some x' ∧∀(j:Nat),j≠i→gs'[j]? =gs[j]? :=by
 refine⟨_,runT_crowd_go (P:=P) (sl:=sl) hi h,by simp,?_,fun j hj=> ?_⟩
 ·have:i<gs.size:=(iL.1 hi).1
  simp[this]
 ·rw[iO (fun e=>hj e.symm),iR]
  cases hx:gs[j]? with
  |none=>rfl
  |some o=>rw[iS,(a0 j o hj hx).woken hc]
theorem Env.calm (E:Env P Old c k A0 AK gs w t q){a b:Goroutine}(ha:gs[0]? =some a)(hb:gs[k]? =some b)(ca:K1 c a)(cb:K1 c b)(j:Nat)(o:Goroutine)(hj:gs[j]? =some o):K1 c o:=by
 by_cases h0:j=0
 ·subst h0;rw[ha]at hj;exact Option.some.inj hj▸ca
 ·by_cases hk:j=k
  ·subst hk;rw[hb]at hj;exact Option.some.inj hj▸cb
  ·exact .inl (E.lv j o (by omega) hk hj).status
theorem Env.at (E:Env P Old c k A0 AK gs w t q)(d:Nat):Env P Old c k A0 AK gs (w.at d) t q:=⟨E.k0,E.ks,E.lv,E.above,E.apart,E.s0,E.sK,E.sO,E.nc,E.ch,E.mid⟩
theorem Env.step0 (E:Env P Old c k A0 AK gs w t q){A0' :Blk}{gs' :Array Goroutine}{w' :World}{es:Array Event}{fn:FuncId}{pos:String}(hG:yK Old A0 A0' w w' es)(a2:gs'.size=gs.size)(a0:∀(j:Nat),j≠0→gs'[j]? =gs[j]?):
  Env P Old c k A0' AK gs' w' (t++MemOp.ofEvents 0 fn pos es) q:=by
 have hg:∀op∈MemOp.ofEvents 0 fn pos es,op.g=0:=xK _ _ _
 obtain⟨s,r,tm,hc⟩:=E.ch;have a1:c<w.heap.size:=(iL.1 hc).1;have hA:∀b,A0' b→A0 b∨w.heap.size≤b:=fun b hb=>(hG.new b hb).imp id fun h=>h.1
 refine⟨E.k0,by rw[a2];exact E.ks,fun i x hi hk hx=> ?_,fun j hj=> ?_,⟨fun b hb hk=> ?_,fun b hb ho=> ?_,E.apart.oK⟩,fun b hb=> ?_,fun b hb=>lE (E.sK b hb) hG.size,fun b hb=>lE (E.sO b hb) hG.size,⟨fun h=> ?_,E.nc.2⟩,⟨s,r,tm,?_⟩,?_⟩
 ·rw[Deaf_other t (by omega) _ hg]
  exact E.lv i x hi hk (by rw[←a0 i (by omega)];exact hx)
 ·have:=E.ks
  rw[Deaf_other t (by omega) _ hg];exact E.above j (by omega)
 ·rcases hA b hb with h|h
  ·exact E.apart.ok b h hk
  ·have:=E.sK b hk;omega
 ·rcases hA b hb with h|h
  ·exact E.apart.o0 b h ho
  ·have:=E.sO b ho;omega
 ·rcases hG.new b hb with h|h
  ·exact lE (E.s0 b h) hG.size
  ·exact h.2
 ·rcases hA c h with h|h
  ·exact E.nc.1 h
  ·omega
 ·rw[hG.rest c a1 E.nc.1];exact hc
 ·refine E.mid.step (.inl rfl) E.k0 ⟨fun b hb hk=> ?_,fun b hb ho=> ?_,E.apart.oK⟩ hG.keep (fun _ h=>h) (by rw[if_pos rfl];exact hG.evs)
  ·rcases hA b hb with h|h
   ·exact E.apart.ok b h hk
   ·have:=E.sK b hk;omega
  ·rcases hA b hb with h|h
   ·exact E.apart.o0 b h ho
   ·have:=E.sO b ho;omega
theorem Env.stepK (E:Env P Old c k A0 AK gs w t q){AK' :Blk}{gs' :Array Goroutine}{w' :World}{es:Array Event}{fn:FuncId}{pos:String}(hG:yK Old AK AK' w w' es)(a3:gs'.size=gs.size)(a0:∀(j:Nat),j≠k→gs'[j]? =gs[j]?):
  Env P Old c k A0 AK' gs' w' (t++MemOp.ofEvents k fn pos es) q:=by
 have hg:∀op∈MemOp.ofEvents k fn pos es,op.g=k:=fun op a1=>by
  rw[ofEvents_eq]at a1;obtain⟨e,_,rfl⟩:=iQ.1 a1;rfl
 obtain⟨s,r,tm,hc⟩:=E.ch;have a2:c<w.heap.size:=(iL.1 hc).1;have hA:∀b,AK' b→AK b∨w.heap.size≤b:=fun b hb=>(hG.new b hb).imp id fun h=>h.1
 have hp:uL Old A0 AK' :=⟨fun b hb hk=>by
   rcases hA b hk with h|h
   ·exact E.apart.ok b hb h
   ·have:=E.s0 b hb;omega,E.apart.o0,fun b hb ho=>by
   rcases hA b hb with h|h
   ·exact E.apart.oK b h ho
   ·have:=E.sO b ho;omega⟩
 refine⟨E.k0,by rw[a3];exact E.ks,fun i x hi hk hx=> ?_,fun j hj=> ?_,hp,fun b hb=>lE (E.s0 b hb) hG.size,fun b hb=> ?_,fun b hb=>lE (E.sO b hb) hG.size,⟨E.nc.1,fun h=> ?_,E.nc.2.2⟩,⟨s,r,tm,?_⟩,?_⟩
 ·rw[Deaf_other t (fun e=>hk e.symm) _ hg]
  exact E.lv i x hi hk (by rw[←a0 i hk];exact hx)
 ·have:=E.ks
  rw[Deaf_other t (by omega) _ hg];exact E.above j (by omega)
 ·rcases hG.new b hb with h|h
  ·exact lE (E.sK b h) hG.size
  ·exact h.2
 ·rcases hA c h with h|h
  ·exact E.nc.2.1 h
  ·omega
 ·rw[hG.rest c a2 E.nc.2.1];exact hc
 ·exact E.mid.step (.inr rfl) E.k0 hp (fun _ h=>h) hG.keep (by rw[if_neg E.k0];exact hG.evs)
theorem yK.rel {A A' X:Blk}{w' :World}{es:Array Event}(h:yK Old A A' w w' es)(hX:∀b,X b→¬A b)(hO:∀b,A b→¬Old b)(sX:∀b,X b→b<w.heap.size)(sO:∀b,Old b→b<w.heap.size):Rel Old X w w' :=
 ⟨h.tape,h.os,h.output,h.size,fun b hb=>by
  rcases hb with hb|hb
  ·exact h.rest b (sX b hb) (hX b hb)
  ·exact h.rest b (sO b hb) (fun ha=>hO b ha hb)⟩
theorem gR {i:Nat}{b:Goroutine}{n:Nat}(hb:gs[i]? =some b)(hi:0<i)(hr:b.status= .running)(hq:QuitsD P n (Deaf t i) b)(a0:∀(j:Nat) o,j≠i→gs[j]? =some o→K1 c o)(hc:∃s r tm,w.heap[c]? =some (.chan 0 #[] false s r tm)):
  ∃gs' b' es m,n=m+1∧runT P (crowd gs w sl) i=(.next (crowd gs' w sl),MemOp.ofEvents i b.frame.fn b.frame.place es)∧(∀e∈es,e.mute=true)∧gs'.size=gs.size∧gs'[i]? =some b' ∧QuitsD P m (deafBehind (Deaf t i) es) b' ∧∀(j:Nat),j≠i→gs'[j]? =gs[j]? :=by
 cases n with
 |zero=>rw[hq.1]at hr;cases hr
 |succ m=>
  rcases hq with⟨hf,_⟩|⟨_,g',es,hm,a1,a3⟩
  ·rw[hf]at hr;cases hr
  have a2:(i==0)=false:=by simp;omega
  obtain⟨gs',h1,h2,h3,h4⟩:=qr (P:=P) (sl:=sl) (c:=c) hb (by rw[a2];exact a1 w) a0 hc;exact⟨gs',g',es,m,rfl,h1,hm,h2,h3,a3,h4⟩
theorem Env.leaver (E:Env P Old c k A0 AK gs w t q){i:Nat}{b' :Goroutine}{gs' :Array Goroutine}{es:Array Event}{m:Nat}{fn:FuncId}{pos:String}(hi:0<i)(a5:i≠k)(hm:∀e∈es,e.mute=true)(a4:gs'.size=gs.size)(hg:gs'[i]? =some b')(hq:QuitsD P m (deafBehind (Deaf t i) es) b')(a1:∀(j:Nat),j≠i→gs'[j]? =gs[j]?):
  Env P Old c k A0 AK gs' w (t++MemOp.ofEvents i fn pos es) (upd q i m):=by
 have a2:∀op∈MemOp.ofEvents i fn pos es,op.g=i:=fun op a3=>by
  rw[ofEvents_eq]at a3;obtain⟨e,_,rfl⟩:=iQ.1 a3;rfl
 have a7:i<gs.size:=by rw[←a4];exact(iL.1 hg).1
 refine⟨E.k0,by rw[a4];exact E.ks,fun j x hj a6 hx=> ?_,fun j hj=> ?_,E.apart,E.s0,E.sK,E.sO,E.nc,E.ch,E.mid.mute (by omega) a5 hm⟩
 ·by_cases a0:j=i
  ·subst a0
   rw[hg]at hx;obtain rfl:=Option.some.inj hx;rw[upd_same,Deaf_own];exact hq
  ·rw[upd_ne _ _ a0,Deaf_other t (fun e=>a0 e.symm) _ a2]
   exact E.lv j x hj a6 (by rw[←a1 j a0];exact hx)
 ·rw[Deaf_other t (by omega) _ a2]
  exact E.above j (by omega)
end
open Go.ConcN (sumTo upd sumTo_upd upd_ne upd_same)
def Zt:Blk:=fun _=>False
section
variable {P:Program}{Old:Blk}{c k:Nat}{z:Value}{Fin:Blk→Goroutine→World→Prop}{A0 AK:Blk}{gs:Array Goroutine}{w:World}{t:Trace}{q:Nat→Nat}{Q:Goroutine→World→Prop}{sl:Option (Nat×Nat)}
theorem Rel.chan {A:Blk}(hA:¬A c)(hO:¬Old c)(w:World)(cap:Nat)(a0:Array Value)(cl:Bool)(s r:Nat)(tm:Bool):Rel Old A w (w.setChan c cap a0 cl s r tm):=⟨rfl,rfl,rfl,by simp[lF],fun b hb=>by
 have a1:c≠b:=by rintro rfl;exact hb.elim hA hO
 simp[lF,iO a1]⟩
theorem uT (w:World)(s r:Nat)(tm:Bool):w.shut c s r tm=w.setChan c 0 #[] true s r tm:=rfl
theorem OL {w:World}(h:c<w.heap.size)(cap:Nat)(a0:Array Value)(cl:Bool)(s r:Nat)(tm:Bool):(w.setChan c cap a0 cl s r tm).heap[c]? =some (.chan cap a0 cl s r tm):=by simp[lF,h]
theorem yK.none {A A' :Blk}{w' :World}{es:Array Event}(h:yK Old A A' w w' es)(hO:∀b,A b→¬Old b)(sO:∀b,Old b→b<w.heap.size):Rel Old Zt w w' :=h.rel (fun _ e=>e.elim) hO (fun _ e=>e.elim) sO
theorem zY.step {a1:Array Goroutine}{w1:World}{a2:Option (Nat×Nat)}{ops:Array MemOp}(a8:stepT P (crowd gs w sl)=(.next (crowd a1 w1 a2),ops))(h:zY P Q a1 w1 a2 (t++ops)):zY P Q gs w sl t:=by
 obtain⟨N,gs',g',w',a0,t',q',a7,a3,a6,a4,a5⟩:=h;refine⟨N+1,gs',g',w',a0,t',q',?_,a3,a6,a4,a5⟩;simp only[runNT,a8];exact a7
theorem Env.turn (E:Env P Old c k A0 AK gs w t q){a b:Goroutine}(h0:gs[0]? =some a)(hk:gs[k]? =some b)(ca:K1 c a)(cb:K1 c b)(hr:a.status= .running∨b.status= .running):
  ∃d a1,(a.status= .running∧stepT P (crowd gs w sl)=runT P (crowd gs (w.at d) a1) 0)∨(b.status= .running∧stepT P (crowd gs w sl)=runT P (crowd gs (w.at d) a1) k)∨
   ∃gs' ops q',stepT P (crowd gs w sl)=(.next (crowd gs' (w.at d) a1),ops)∧Env P Old c k A0 AK gs' (w.at d) (t++ops) q' ∧gs'[0]? =some a∧gs'[k]? =some b∧sumTo gs'.size q' <sumTo gs.size q:=by
 have a2:=E.calm h0 hk ca cb;have a8:∀x∈gs,awake x:=by
  intro x hx;obtain⟨i,hi,rfl⟩:=iM.1 hx;exact(a2 i _ (iP hi)).awake
 obtain⟨i,x,d,a1,hi,hx,a5⟩:=crowd_pick (P:=P) (w:=w) (sl:=sl) a8 (hr.elim (fun h=>⟨0,a,h0,h⟩) (fun h=>⟨k,b,hk,h⟩));refine⟨d,a1,?_⟩;by_cases a6:i=0
 ·subst a6
  rw[h0]at hi;obtain rfl:=Option.some.inj hi;exact .inl ⟨hx,a5⟩
 ·by_cases a3:i=k
  ·subst a3
   rw[hk]at hi;obtain rfl:=Option.some.inj hi;exact .inr (.inl ⟨hx,a5⟩)
  ·have hq:=E.lv i x (by omega) a3 hi
   obtain⟨gs',b',es,m,hn,a4,hm,a7,a9,b2,a0⟩:=gR (P:=P) (sl:=a1) (w:=w.at d) (c:=c) hi (by omega) hx hq (fun j o _ hj=>a2 j o hj) (E.at d).ch;have b1:i<gs.size:=(iL.1 hi).1;have b3:sumTo gs.size (upd q i m)+(m+1)=sumTo gs.size q+m:=by
    have:=sumTo_upd q m id b1;simpa[hn]using this
   refine .inr (.inr ⟨gs',_,upd q i m,a5.trans a4,(E.at d).leaver (by omega) a3 hm a7 a9 b2 a0,by rw[a0 0 (fun e=>a6 e.symm)];exact h0,by rw[a0 k (fun e=>a3 e.symm)];exact hk,?_⟩);rw[a7];omega
theorem Env.comm (E:Env P Old c k A0 AK gs w t q){gs' :Array Goroutine}{u:Array MemOp}(hu:∀op∈u,op.act.touch? =none∧∀x,op.act≠ .mark x)(a3:gs'.size=gs.size)(a1:∀(j:Nat),j≠0→j≠k→gs'[j]? =gs[j]?)(s r:Nat)(tm:Bool):
  Env P Old c k A0 AK gs' (w.setChan c 0 #[] false s r tm) (t++u) q:=by
 obtain⟨s0,r0,a4,hc⟩:=E.ch;have a2:c<w.heap.size:=(iL.1 hc).1;have hs:(w.setChan c 0 #[] false s r tm).heap.size=w.heap.size:=by simp[lF]
 refine⟨E.k0,by rw[a3];exact E.ks,fun i x hi hk hx=> ?_,fun j hj=> ?_,E.apart,fun b hb=>by rw[hs];exact E.s0 b hb,fun b hb=>by rw[hs];exact E.sK b hb,fun b hb=>by rw[hs];exact E.sO b hb,E.nc,⟨s,r,tm,OL a2 ..⟩,E.mid.comm hu⟩
 ·rw[ZD (fun op a0=>(hu op a0).2) t i]
  exact E.lv i x hi hk (by rw[←a1 i (by omega) hk];exact hx)
 ·rw[ZD (fun op a0=>(hu op a0).2) t j]
  exact E.above j (by omega)
theorem yK.look {A:Blk}(w:World){es:Array Event}(h:∀e∈es,EvO Old A e):yK Old A A w w es:=⟨rfl,rfl,rfl,eP _,fun _ h=>h,fun _ h=> .inl h,fun _ _ _=>rfl,h⟩
theorem OI {i j:Nat}{f1 f2:FuncId}{p1 p2:String}{s r cap:Nat}:∀op∈(#[{g:=i,fn:=f1,pos:=p1,act:= .send c s},{g:=j,fn:=f2,pos:=p2,act:= .recv c r cap},{g:=i,fn:=f1,pos:=p1,act:= .sendDone c s},{g:=j,fn:=f2,pos:=p2,act:= .recvDone c r}]:Array MemOp),op.act.touch? =none∧∀x,op.act≠ .mark x:=by
 intro op a0;simp only[lB,iC,iI,or_false]at a0;rcases a0 with rfl|rfl|rfl|rfl<;>exact⟨rfl,fun x h=>by cases h⟩
theorem qY {i:Nat}{a0:Bool}(h:∀(j:Nat) o,j≠i→gs[j]? =some o→o.status≠ .blocked):partners (gs.setIfInBounds i ph) c a0=[]:=by
 refine partners_nil fun j g hj=> ?_
 rcases getElem?_stand gs i j g hj with⟨_,rfl⟩|⟨a1,hg⟩
 ·exact offersAt_ph _ _
 ·exact offersAt_of_not_blocked (h j g a1 hg) _ _
theorem Kc {i j:Nat}{a0:Bool}{x:Goroutine}(a1:j≠i)(hj:gs[j]? =some x)(hx:offersAt x c a0=[0])(h:∀(m:Nat) o,m≠i→m≠j→gs[m]? =some o→o.status≠ .blocked):partners (gs.setIfInBounds i ph) c a0=[(j,0)]:=by
 rw[partners_one (stand_get a1 hj) (fun m y hm hy=> ?_),hx]
 ·rfl
 ·rcases getElem?_stand gs i m y hy with⟨_,rfl⟩|⟨a2,hg⟩
  ·exact offersAt_ph _ _
  ·exact offersAt_of_not_blocked (h m y a2 hm hg) _ _
theorem Env.free (E:Env P Old c k A0 AK gs w t q)(j:Nat)(o:Goroutine)(h0:j≠0)(hk:j≠k)(hj:gs[j]? =some o):o.status≠ .blocked:=by
 rcases(E.lv j o (by omega) hk hj).status with h|h<;>rw[h]<;>intro e<;>cases e
structure vZ (P:Program)(Old:Blk)(c k:Nat)(A0 AK:Blk)(gs:Array Goroutine)(w:World)(t:Trace)(pc:Nat)(q:Nat→Nat):Prop where
 k0:k≠0
 ks:k<gs.size
 lv:∀(i:Nat) g,0<i→i≠k→gs[i]? =some g→QuitsD P (q i) (Deaf t i) g
 lk:∃g,gs[k]? =some g∧QuitsIn P (q k) g
 above:∀j,gs.size≤j→Deaf t j=0
 apart:uL Old A0 AK
 s0:∀b,A0 b→b<w.heap.size
 sK:∀b,AK b→b<w.heap.size
 sO:∀b,Old b→b<w.heap.size
 nc:¬A0 c∧¬AK c∧¬Old c
 ch:∃s r tm,w.heap[c]? =some (.chan 0 #[] true s r tm)
 mid:US Old A0 AK k c t pc
theorem vZ.at {pc:Nat}(E:vZ P Old c k A0 AK gs w t pc q)(d:Nat):vZ P Old c k A0 AK gs (w.at d) t pc q:=⟨E.k0,E.ks,E.lv,E.lk,E.above,E.apart,E.s0,E.sK,E.sO,E.nc,E.ch,E.mid⟩
theorem vZ.leavers {pc:Nat}(E:vZ P Old c k A0 AK gs w t pc q):Leavers P t gs q:=⟨fun i g hi hg=>by
 by_cases hk:i=k
 ·subst hk
  obtain⟨x,hx,hq⟩:=E.lk;rw[hx]at hg;obtain rfl:=Option.some.inj hg;rw[E.mid.mid.hearsK];exact QuitsD.of_quitsIn hq
 ·exact E.lv i g hi hk hg,E.above⟩
theorem vZ.step0 {pc:Nat}(E:vZ P Old c k A0 AK gs w t pc q){A0' :Blk}{gs' :Array Goroutine}{w' :World}{es:Array Event}{fn:FuncId}{pos:String}(hG:yK Old A0 A0' w w' es)(a5:gs'.size=gs.size)(a0:∀(j:Nat),j≠0→gs'[j]? =gs[j]?):
  vZ P Old c k A0' AK gs' w' (t++MemOp.ofEvents 0 fn pos es) pc q:=by
 have hg:∀op∈MemOp.ofEvents 0 fn pos es,op.g=0:=xK _ _ _
 obtain⟨s,r,tm,hc⟩:=E.ch;have a1:c<w.heap.size:=(iL.1 hc).1;have hA:∀b,A0' b→A0 b∨w.heap.size≤b:=fun b hb=>(hG.new b hb).imp id fun h=>h.1
 have hp:uL Old A0' AK:=⟨fun b hb hk=>by
   rcases hA b hb with h|h
   ·exact E.apart.ok b h hk
   ·have:=E.sK b hk;omega,fun b hb ho=>by
   rcases hA b hb with h|h
   ·exact E.apart.o0 b h ho
   ·have:=E.sO b ho;omega,E.apart.oK⟩
 obtain⟨gk,a2,a4⟩:=E.lk;refine⟨E.k0,by rw[a5];exact E.ks,fun i x hi hk hx=> ?_,⟨gk,by rw[a0 k E.k0];exact a2,a4⟩,fun j hj=> ?_,hp,fun b hb=> ?_,fun b hb=>lE (E.sK b hb) hG.size,fun b hb=>lE (E.sO b hb) hG.size,⟨fun h=> ?_,E.nc.2⟩,⟨s,r,tm,?_⟩,?_⟩
 ·rw[Deaf_other t (by omega) _ hg]
  exact E.lv i x hi hk (by rw[←a0 i (by omega)];exact hx)
 ·have:=E.ks
  rw[Deaf_other t (by omega) _ hg];exact E.above j (by omega)
 ·rcases hG.new b hb with h|h
  ·exact lE (E.s0 b h) hG.size
  ·exact h.2
 ·rcases hA c h with h|h
  ·exact E.nc.1 h
  ·omega
 ·rw[hG.rest c a1 E.nc.1];exact hc
 ·exact E.mid.grow (E.mid.mid.step (.inl rfl) E.k0 hp hG.keep (fun _ h=>h) (by rw[if_pos rfl];exact hG.evs)) (fun op a3 hk=>absurd ((hg op a3).symm.trans hk) (fun e=>E.k0 e.symm))
theorem vZ.leaver {pc:Nat}(E:vZ P Old c k A0 AK gs w t pc q){a x:Goroutine}(h0:gs[0]? =some a)(ha:a.status= .running){i:Nat}(hi:gs[i]? =some x)(a6:i≠0)(hx:x.status= .running):
  ∃gs' ops q',runT P (crowd gs w sl) i=(.next (crowd gs' w sl),ops)∧vZ P Old c k A0 AK gs' w (t++ops) pc q' ∧gs'[0]? =some a∧sumTo gs'.size q' <sumTo gs.size q:=by
 have b1:i<gs.size:=(iL.1 hi).1;have b7:(i==0)=false:=by simp;omega
 have b9:∀(j:Nat) o,0<j→gs[j]? =some o→o.status= .running∨o.status= .finished:=fun j o hj ho=>yv E.leavers j o hj ho
 have a8:∀(y y' :Goroutine) (w' :World) (j:Nat),j≠i→(gs.map (woken P y y' w'))[j]? =gs[j]? :=by
  intro y y' w' j hj;rw[iR]
  cases ho:gs[j]? with
  |none=>rfl
  |some o=>
   rw[iS];congr 1
   unfold woken;split
   ·refine again_running _ ?_
    rcases iN j with rfl|b4
    ·rw[h0]at ho;obtain rfl:=Option.some.inj ho;exact .inl ha
    ·exact b9 j o b4 ho
   ·rfl
 by_cases a1:i=k
 ·subst a1
  obtain⟨gk,a9,a5⟩:=E.lk;rw[hi]at a9;obtain rfl:=Option.some.inj a9
  cases a2:q i with
  |zero=>rw[a2]at a5;rw[show x.status= .finished from a5]at hx;cases hx
  |succ m=>
   rw[a2]at a5;rcases a5 with hf|⟨_,x',a3,b5⟩
   ·rw[hf]at hx;cases hx
   have a0:=runT_crowd_go (P:=P) (sl:=sl) (i:=i) (w:=w) hi (by rw[b7];exact a3 w);have b6:sumTo gs.size (upd q i m)+(m+1)=sumTo gs.size q+m:=by
    have:=sumTo_upd q m id b1;simpa[a2]using this
   have he:MemOp.ofEvents i x.frame.fn x.frame.place #[]= #[]:=rfl;rw[he]at a0;refine⟨_,#[],upd q i m,a0,?_,?_,?_⟩
   ·rw[Array.append_empty]
    refine⟨E.k0,by simpa using E.ks,fun j y hj a4 hy=> ?_,⟨x',by rw[lG (by simpa using b1)],by rw[upd_same];exact b5⟩,fun j hj=>E.above j (by simpa using hj),E.apart,E.s0,E.sK,E.sO,E.nc,E.ch,E.mid⟩;rw[iO (fun e=>a4 e.symm),a8 _ _ _ j a4]at hy;rw[upd_ne _ _ a4];exact E.lv j y hj a4 hy
   ·rw[iO a6,a8 _ _ _ 0 (fun e=>a6 e.symm)];exact h0
   ·simp only[lH,lI];omega
 ·have hq:=E.lv i x (by omega) a1 hi
  cases a2:q i with
  |zero=>rw[a2]at hq;rw[hq.1]at hx;cases hx
  |succ m=>
   rw[a2]at hq;rcases hq with⟨hf,_⟩|⟨_,x',es,hm,a3,b5⟩
   ·rw[hf]at hx;cases hx
   have a0:=runT_crowd_go (P:=P) (sl:=sl) (i:=i) (w:=w) hi (by rw[b7];exact a3 w);have b6:sumTo gs.size (upd q i m)+(m+1)=sumTo gs.size q+m:=by
    have:=sumTo_upd q m id b1;simpa[a2]using this
   have b3:∀op∈MemOp.ofEvents i x.frame.fn x.frame.place es,op.g=i:=fun op b2=>by
    rw[ofEvents_eq]at b2;obtain⟨e,_,rfl⟩:=iQ.1 b2;rfl
   obtain⟨gk,a9,a5⟩:=E.lk;refine⟨_,_,upd q i m,a0,?_,?_,?_⟩
   ·refine⟨E.k0,by simpa using E.ks,fun j y hj a4 hy=> ?_,⟨gk,by rw[iO a1,a8 _ _ _ k (fun e=>a1 e.symm)];exact a9,by rw[upd_ne _ _ (fun e=>a1 e.symm)];exact a5⟩,fun j hj=> ?_,E.apart,E.s0,E.sK,E.sO,E.nc,E.ch,E.mid.grow (E.mid.mid.mute a6 a1 hm) (fun op b2 hk=>absurd ((b3 op b2).symm.trans hk) a1)⟩
    ·by_cases a7:j=i
     ·subst a7
      rw[lG (by simpa using b1)]at hy;obtain rfl:=Option.some.inj hy;rw[upd_same,Deaf_own];exact b5
     ·rw[iO (fun e=>a7 e.symm),a8 _ _ _ j a7]at hy
      rw[upd_ne _ _ a7,Deaf_other t (fun e=>a7 e.symm) _ b3];exact E.lv j y hj a4 hy
    ·have b8 :gs.size≤j:=by simpa using hj
     rw[Deaf_other t (by omega) _ b3];exact E.above j b8
   ·rw[iO a6,a8 _ _ _ 0 (fun e=>a6 e.symm)];exact h0
   ·simp only[lH,lI];omega
def End (Old:Blk)(Fin:Blk→Goroutine→World→Prop)(w0:World)(g:Goroutine)(w:World):Prop:=(∃A,Fin A g w)∧Rel Old Zt w0 w
theorem Jg {w0:World}{a:Goroutine}{wb:World}(h:OW P true Old (Yi P Old c z Fin []) A0 a wb):∀(w:World) (gs:Array Goroutine) (sl:Option (Nat×Nat)) (t:Trace) (pc:Nat) (q:Nat→Nat),Rel Old A0 wb w→Rel Old Zt w0 w→vZ P Old c k A0 AK gs w t pc q→gs[0]? =some a→
  zY P (End Old Fin w0) gs w sl t:=by
 induction h using OW.ind with
 | @stop A a wb b4=>
  suffices H:∀(M:Nat) (w:World) (gs:Array Goroutine) (sl:Option (Nat×Nat)) (t:Trace) (pc:Nat) (q:Nat→Nat),sumTo gs.size q<M→Rel Old A wb w→Rel Old Zt w0 w→vZ P Old c k A AK gs w t pc q→gs[0]? =some a→zY P (End Old Fin w0) gs w sl t by
   intro w gs sl t pc q hr a1 E h0;exact H _ w gs sl t pc q (iY _) hr a1 E h0
  intro M;induction M with
  |zero=>exact fun w gs sl t pc q hM=>absurd hM (lJ _)
  |succ M ih=>
   intro w gs sl t pc q hM hr a1 E h0;have a5:a.status= .running:=(b4 w hr).run;have a9:∀x∈gs,awake x:=by
    intro x hx;obtain⟨i,hi,rfl⟩:=iM.1 hx;rcases iN i with rfl|a3
    ·have:gs[0]=a:=by simpa[iP hi]using h0
     rw[this];exact awake_of (.inl a5)
    ·exact awake_of ((yv E.leavers i _ a3 (iP hi)).elim .inl fun x=> .inr (.inr x))
   obtain⟨i,x,d,a2,hi,hx,a0⟩:=crowd_pick (P:=P) (w:=w) (sl:=sl) a9 ⟨0,a,h0,a5⟩;by_cases a6:i=0
   ·subst a6
    rw[h0]at hi;obtain rfl:=Option.some.inj hi;obtain⟨⟨_,es,b5,b6⟩,b1⟩:=b4 (w.at d) (hr.trans (Rel.at _ _ _ _));obtain⟨s,r,tm,hc⟩:=(E.at d).ch;have hp:partners (gs.setIfInBounds 0 ph) c true=[]:=qY fun j o hj ho=>by
     rcases yv E.leavers j o (by omega) ho with h|h<;>rw[h]<;>intro e<;>cases e
    have a4:=crowd_recv_closed (P:=P) (sl:=a2) h0 b5 hc hp;have E1:=(E.at d).step0 (gs' :=gs) (fn:=a.frame.fn) (pos:=a.frame.place) (yK.look (w.at d) b6) rfl (fun _ _=>rfl);refine zY.step (a0.trans a4) ?_;rw[←lD];refine⟨0,_,_,w.at d,a2,_,q,rfl,by rw[lG (iL.1 h0).1],⟨⟨A,?_⟩,a1.trans (Rel.at _ _ _ _)⟩,⟨fun j y hj hy=> ?_,fun j hj=> ?_⟩,E1.mid.done E.k0 _ _⟩
    ·have:=b1 (w.at d) (Rel.refl _ _ _)
     rw[finishComm_recv];exact this
    ·rw[ZD (by intro op a7 x hx;simp only[lB,iC,iI,or_false]at a7;subst a7;cases hx)]
     rw[iO (by omega)]at hy;exact E1.leavers.old j y hj hy
    ·rw[ZD (by intro op a7 x hx;simp only[lB,iC,iI,or_false]at a7;subst a7;cases hx)]
     exact E1.leavers.above j (by simpa using hj)
   ·obtain⟨gs',ops,q',a4,E',a8,b8⟩:=(E.at d).leaver (sl:=a2) h0 a5 hi a6 hx
    exact zY.step (a0.trans a4) (ih _ gs' a2 _ pc q' (by omega) (hr.trans (Rel.at _ _ _ _)) (a1.trans (Rel.at _ _ _ _)) E' a8)
 | @step A a wb f v e B hs h1 _ b9=>
  suffices H:∀(M:Nat) (w:World) (gs:Array Goroutine) (sl:Option (Nat×Nat)) (t:Trace) (pc:Nat) (q:Nat→Nat),sumTo gs.size q<M→Rel Old A wb w→Rel Old Zt w0 w→vZ P Old c k A AK gs w t pc q→gs[0]? =some a→zY P (End Old Fin w0) gs w sl t by
   intro w gs sl t pc q hr a1 E h0;exact H _ w gs sl t pc q (iY _) hr a1 E h0
  intro M;induction M with
  |zero=>exact fun w gs sl t pc q hM=>absurd hM (lJ _)
  |succ M ih=>
   intro w gs sl t pc q hM hr a1 E h0;have a9:∀x∈gs,awake x:=by
    intro x hx;obtain⟨i,hi,rfl⟩:=iM.1 hx;rcases iN i with rfl|a3
    ·have:gs[0]=a:=by simpa[iP hi]using h0
     rw[this];exact awake_of (.inl hs)
    ·exact awake_of ((yv E.leavers i _ a3 (iP hi)).elim .inl fun x=> .inr (.inr x))
   obtain⟨i,x,d,a2,hi,hx,a0⟩:=crowd_pick (P:=P) (w:=w) (sl:=sl) a9 ⟨0,a,h0,hs⟩;by_cases a6:i=0
   ·subst a6
    rw[h0]at hi;obtain rfl:=Option.some.inj hi;have b3:=hr.trans (Rel.at Old A w d);obtain⟨b7,hG⟩:=h1 (w.at d) b3;have a4:=runT_crowd_go (P:=P) (sl:=a2) (i:=0) (w:=w.at d) h0 b7;have b2:∀(j:Nat),j≠0→((gs.map (woken P a (f (w.at d)) (v (w.at d)))).setIfInBounds 0 (f (w.at d)))[j]? =gs[j]? :=by
     intro j hj;rw[iO (fun e=>hj e.symm),iR]
     cases ho:gs[j]? with
     |none=>rfl
     |some o=>
      rw[iS,woken_quitsD (E.leavers.old j o (by omega) ho)]
    refine zY.step (a0.trans a4) (b9 (w.at d) b3 _ _ a2 _ pc q (Rel.refl _ _ _) ((a1.trans (Rel.at _ _ _ _)).trans (hG.none E.apart.o0 E.sO)) ((E.at d).step0 hG (by simp) b2) ?_);rw[lG (by simpa using(iL.1 h0).1)]
   ·obtain⟨gs',ops,q',a4,E',a8,b8⟩:=(E.at d).leaver (sl:=a2) h0 hs hi a6 hx
    exact zY.step (a0.trans a4) (ih _ gs' a2 _ pc q' (by omega) (hr.trans (Rel.at _ _ _ _)) (a1.trans (Rel.at _ _ _ _)) E' a8)
end
