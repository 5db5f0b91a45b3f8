import Derived.Test.YtolgebdmffcemaaGreatDoorQ02
import Derived.Conc.Beside
import Derived.Conc.LoneCalls
set_option linter.all false
set_option maxHeartbeats 20000000
set_option maxRecDepth 1000000
open Go renaming Goroutine→eZ,World→eX,Question→iC,Program→eA,Trace→lD,Event→eS
open List renaming not_mem_nil→lA,getD_eq_getElem?_getD→lB,mem_of_getElem?→lC,range_succ→lP
open Nat renaming le_refl→iA,eq_zero_or_pos→lG,le_trans→iB,zero_add→lQ,lt_succ_self→lR
open Array renaming getElem?_eq_some_iff→lE,mem_iff_getElem→lF,getElem?_setIfInBounds_ne→lH,getElem?_eq_getElem→lI,mem_map→lJ,getElem?_map→lK,ext→lM,getElem_modify→lN,getElem?_modify→lO
open Option renaming map_some→lL
namespace Go.Proofs.YtolgebdmffcemaaGreatDoor
open Go Go.Conc
def Qs (gs:Array eZ):Prop:=∀h∈gs,h.status≠ .blocked
theorem yh {gs:Array eZ}(h:Qs gs)(r:Nat)(a0:Bool):partners gs r a0=[]:=by
 unfold partners;rw[List.flatMap_eq_nil_iff];rintro⟨g,i⟩ hx;have hg:g∈gs:=by
  have h1:=Array.mem_toList_iff.1 hx;have h2:=Array.mem_zipIdx' h1;exact h2.2▸Array.getElem_mem _
 have:=h g hg;simp only;split
 ·rename_i h1 h2;exact absurd h1 this
 ·rfl
def xI:Way→Prop
 | .partner _ _=>False
 |_=>True
theorem oD {gs gs' :Array eZ}(h:Qs gs)(h' :Qs gs')(w:eX):ways w gs=ways w gs' :=by
 funext c
 unfold ways;simp only[yh h,yh h']
theorem jm {gs:Array eZ}(h:Qs gs)(w:eX)(c:CommCase):∀x∈ways w gs c,xI x:=by
 unfold ways;simp only[yh h];intro x hx;repeat' (first
  |(simp only[List.mem_singleton,lA]at hx;subst hx;exact trivial)
  |(simp only[lA]at hx;done)
  |(cases hx;done)
  |split at hx)
theorem J3 {l:List Way}(h:∀x∈l,xI x)(b:Nat):xI (l.getD b .closed):=by
 rw[lB]
 cases hb:l[b]? with
 |none=>exact trivial
 |some x=>exact h x (lC hb)
theorem CF {gs:Array eZ}(w:eX)(T:Nat→iC→Nat)(d:Nat):ways (re w T d) gs=ways w gs:=rfl
theorem KZ (w:eX)(T:Nat→iC→Nat)(d:Nat):(re w T d).heap=w.heap:=rfl
theorem qS {rest:Rest}(h:rest.timers= #[])(cases:Array CommCase)(w:eX):waitingAt rest cases w=some w:=by
 unfold waitingAt;have:timerAhead rest w.os.mono cases=false:=by
  unfold timerAhead;rw[h,Array.any_eq_false];intro j hj;split<;>simp
 rw[this];rfl
theorem BF {α:Type}{F:α→Prop}{P:eA}{s:Sem α}(hs:Zq P F s){w w' :eX}{T:Nat→iC→Nat}{d n:Nat}{a:α}(h:s.run P w= .ok a w')(hn:w'.drawn≤n)(hT:ZE w T d (n-w.drawn)):s.run P (re w T d)= .ok a (re w' T (d+(w'.drawn-w.drawn)))∧w.drawn≤w'.drawn:=by
 have h1:(s.runT P w #[]).1= .ok a w' :=by rw[Sem.runT_fst];exact h
 have h2:=qX hs hT (r:= .ok a w') (es:=(s.runT P w #[]).2) (by rw[←h1]);obtain⟨h3,h4,h5⟩:=h2;have h6:=congrArg Prod.fst (h5 trivial hn);rw[Sem.runT_fst]at h6;exact⟨h6,h3⟩
section
variable {p:eA}{gs gs' :Array eZ}{rest rest' :Rest}{i:Nat}{g:eZ}{cases:Array CommCase}{b:Bool}{sh:CommShape}{w:eX}
theorem Qo (h:Qs gs)(h' :Qs gs')(ht:rest.timers= #[])(a9 :rest'.timers= #[]){m:Machine}{ops:Array MemOp}(hc:communicate p rest gs i g cases b sh w=(.next m,ops)){T:Nat→iC→Nat}{d n:Nat}(hn:m.world.drawn≤n)(hT:ZE w T d (n-w.drawn))(a8:g.status= .running):
  ∃g' w',m={world:=w',gs:=gs.setIfInBounds i g',rest:=rest}∧communicate p rest' gs' i g cases b sh (re w T d)=(.next {world:=re w' T (d+(w'.drawn-w.drawn)),gs:=gs'.setIfInBounds i g',rest:=rest' },ops)∧
   g'.dying=g.dying∧(g'.status= .running∨g'.status= .blocked)∧g'.callers=g.callers∧(g'.frame=g.frame∨(∃v,g'.frame=g.frame.finish v)∨∃c,g'.frame=g.frame.raise c)∧(∀op∈ops,op.g=i∧op.act.touch? =none∧∀x,op.act≠ .mark x)∧w.drawn≤w'.drawn∧w'.tape=w.tape:=by
 have hw:ways (re w T d) gs' =ways w gs:=(CF w T d).trans (oD h' h w);have a5:=jm h w;unfold communicate at hc⊢;rw[hw];simp only[KZ]at hc⊢;generalize ways w gs=W at hc a5⊢;split at hc
 ·cases hc
 ·rename_i h1
  rw[if_neg h1];split at hc
  ·rename_i h2
   rw[if_pos h2];split at hc
   ·rename_i h3
    rw[if_pos h3];rw[qS ht]at hc;rw[qS a9];injection hc with a0 a1
    injection a0 with a0
    subst a0 a1;exact⟨_,w,rfl,by simp,rfl,.inr rfl,rfl,.inl rfl,by simp,iA _,rfl⟩
   ·rename_i h3
    rw[if_neg h3];injection hc with a0 a1
    injection a0 with a0
    subst a0 a1;exact⟨_,w,rfl,by simp,rfl,.inl rfl,rfl,.inr (.inl ⟨_,rfl⟩),by simp[MemAct.touch?],iA _,rfl⟩
  ·rename_i h2
   rw[if_neg h2];generalize hr:List.filter (fun(x:Nat×CommCase×List Way)=> !x.2.snd.isEmpty) (List.map (fun(x:CommCase×Nat)=>(x.snd,x.fst,W x.fst)) cases.zipIdx.toList)=ready at hc⊢;have a7:∀x∈ready,∀y∈x.2.2,xI y:=by
    intro x hx;rw[←hr]at hx;obtain⟨c,_,rfl⟩:=List.mem_map.1 (List.mem_filter.1 hx).1;exact a5 c.1
   clear hr h2 h1;generalize hs:(do
     let a←choose (.select ready.length)
     let b←choose (.extern "which waiting goroutine is the partner" (ready.getD a (0,default,[])).2.snd.length)
     pure ((ready.getD a (0,default,[])).fst,(ready.getD a (0,default,[])).2.fst,(ready.getD a (0,default,[])).2.snd.getD b .closed):Sem (Nat×CommCase×Way))=s at hc⊢
   have hm:z6 p (fun x:Nat×CommCase×Way=>xI x.2.2) s:=by
    rw[←hs];refine z6.bind0 (Zi _) (fun a=>z6.bind0 (Zi _) (fun b=> ?_));refine J3 (fun x hx=> ?_) b;rw[lB]at hx
    cases ha:ready[a]? with
    |none=>rw[ha]at hx;cases hx
    |some y=>rw[ha]at hx;exact a7 y (lC ha) x hx
   clear hs;split at hc
   ·cases hc
   ·rename_i k c a4 v hp
    have a6:xI a4:=by
     have h1:(s.runT p w #[]).1= .ok (k,c,a4) v:=by rw[Sem.runT_fst];exact hp
     exact k_ hm.fair w #[] _ _ h1
    have hv:v.drawn≤n→s.run p (re w T d)= .ok (k,c,a4) (re v T (d+(v.drawn-w.drawn))):=fun hv=>(BF hm.fair hp hv hT).1
    have hk:v.tape=w.tape∧w.drawn≤v.drawn:=by
     have h1:=qk p s w #[];rw[Sem.runT_fst,hp]at h1;exact h1
    simp only[yh h]at hc;generalize a3:(match c.chan with| .chan (some r)=>r|_=>0)=r at hc;split at hc
    ·
     have e:∀u:eX,(runtimePanic (.plain "send on closed channel"):Sem Unit).run p u= .halt (.panic (.iface p.rt.plainError (strVal "send on closed channel"))) u:=fun u=>rfl
     rw[e]at hc;injection hc with a0 a1
     injection a0 with a0
     subst a0 a1;refine⟨_,v,rfl,?_,rfl,.inl a8,rfl,.inr (.inr ⟨_,rfl⟩),by simp,hk.2,hk.1⟩;rw[hv hn];simp only[e]
    ·injection hc with a0 a1
     injection a0 with a0
     subst a0 a1;refine⟨_,v,rfl,?_,rfl,.inl rfl,rfl,.inr (.inl ⟨_,rfl⟩),by simp[MemAct.touch?],hk.2,hk.1⟩;subst a3;rw[hv hn]
    ·rename_i hh a2
     injection hc with a0 a1
     injection a0 with a0
     subst a0 a1 a3;refine⟨_,{v with heap:=_},rfl,?_,rfl,.inl rfl,rfl,.inr (.inl ⟨_,rfl⟩),by simp[MemAct.touch?],hk.2,hk.1⟩;rw[hv hn];simp only[KZ,hh,a2];rfl
    ·rename_i hh a2
     injection hc with a0 a1
     injection a0 with a0
     subst a0 a1 a3;refine⟨_,{v with heap:=_},rfl,?_,rfl,.inl rfl,rfl,.inr (.inl ⟨_,rfl⟩),by simp[MemAct.touch?],hk.2,hk.1⟩;rw[hv hn];simp only[KZ,hh,a2,yh h'];rfl
    ·exact a6.elim
    ·exact a6.elim
    ·cases hc
end
structure YT (P:eA)(g g' :eZ)(w w' :eX)(ops:Array MemOp):Prop where
 run:g.status= .running
 tape:w'.tape=w.tape
 drawn:w.drawn≤w'.drawn
 solo:∀(T:Nat→iC→Nat) (d n:Nat),w'.drawn≤n→ZE w T d (n-w.drawn)→step P (solo g (re w T d))= .next (solo g' (re w' T (d+(w'.drawn-w.drawn))))
 crowd:∀(gs:Array eZ) (sl:Option (Nat×Nat)),gs[0]? =some g→(∀(i:Nat) h,0<i→gs[i]? =some h→h.status= .running∨h.status= .finished)→
  ∃gs',runT P (crowd gs w sl) 0=(.next (Go.Conc.crowd gs' w' sl),ops)∧gs'.size=gs.size∧gs'[0]? =some g' ∧∀(i:Nat),0<i→gs'[i]? =gs[i]?
 own:∀op∈ops,op.g=0
 deaf:∀t,Deaf (t++ops) 0=Deaf t 0
section
variable {P:eA}{g:eZ}{w:eX}
theorem ZG {u:Array MemOp}(h:∀op∈u,∀x,op.act≠ .mark x)(t:lD)(i:Nat):Deaf (t++u) i=Deaf t i:=by
 obtain⟨l⟩:=u;rw[Deaf_append];have h' :∀op∈l,∀x,op.act≠ .mark x:=fun op ho=>h op (by simpa using ho)
 clear h;generalize Deaf t i=d;induction l generalizing d with
 |nil=>rfl
 |cons y l ih=>
  rw[List.foldl_cons];have e:deafStep i d y=d:=by
   have:=h' y (List.mem_cons_self ..);unfold deafStep
   cases ha:y.act with
   |mark x=>exact absurd ha (this x)
   |_=>rfl
  rw[e];exact ih (fun op ho=>h' op (List.mem_cons_of_mem _ ho)) _
theorem qj {gs:Array eZ}{g:eZ}(h:gs[0]? =some g)(v:eZ):gs.swapAt! 0 v=(g,gs.setIfInBounds 0 v):=by
 obtain⟨a0,rfl⟩:=lE.1 h;simp[Array.swapAt!,Array.swapAt,a0,Array.setIfInBounds]
def Xi (gs:Array eZ):Array eZ:=gs.setIfInBounds 0 {(default:eZ)with status:= .finished}
def q_ (sl:Option (Nat×Nat)):Rest:={timers:= #[],alone:=none,slice:=sl}
theorem xe {gs:Array eZ}{sl:Option (Nat×Nat)}(h:gs[0]? =some g){g' :eZ}{c:Array CommCase}{b:Bool}{sh:CommShape}{w' :eX}{es:Array eS}(hs:stepG P true g w= .comm g' c b sh w' es):
  runT P (crowd gs w sl) 0=((communicate P (q_ sl) (Xi gs) 0 g' c b sh w').1,MemOp.ofEvents 0 g.frame.fn g.frame.place es++(communicate P (q_ sl) (Xi gs) 0 g' c b sh w').2):=by
 unfold runT crowd;simp only[qj h,beq_self_eq_true,hs];rfl
def Vq (gs:Array eZ)(sl:Option (Nat×Nat))(g' :eZ)(c:Nat)(w' :eX):Stepped:=
 match w'.heap[c]? with
 |some (.coro (some h))=> .next {world:={w' with heap:=w'.heap.setIfInBounds c (.coro none)},gs:=((Xi gs).setIfInBounds 0 {g' with status:= .finished}).modify h (fun o=>{o with status:= .running}),rest:=q_ sl}
 |some (.coro none)=>
  match endThrow g'.frame "coroswitch on exited coro" w' with
  | .go g w _=> .next {world:=w,gs:=(Xi gs).setIfInBounds 0 g,rest:=q_ sl}
  |_=> .ended (.stuck "" "") w'
 |_=> .ended (.stuck "coroswitch: no coroutine" "") w'
theorem xd {gs:Array eZ}{sl:Option (Nat×Nat)}(h:gs[0]? =some g){g' :eZ}{c:Nat}{w' :eX}{es:Array eS}(hs:stepG P true g w= .coroswitch g' c true w' es):
  runT P (crowd gs w sl) 0=(Vq gs sl g' c w',MemOp.ofEvents 0 g.frame.fn g.frame.place es):=by
 unfold runT crowd;simp only[qj h,beq_self_eq_true,hs];rfl
theorem Kr {gs:Array eZ}(h:∀(i:Nat) x,0<i→gs[i]? =some x→x.status= .running∨x.status= .finished):Qs (Xi gs):=by
 intro x hx hb;obtain⟨i,hi,rfl⟩:=lF.1 hx;have a1 :i<gs.size:=by simpa[Xi]using hi
 rcases lG i with rfl|a0
 ·simp[Xi]at hb
 ·have h1:(Xi gs)[i]? =gs[i]? :=by
   unfold Xi;rw[lH (by omega)]
  rw[lI hi]at h1;rcases h i _ a0 h1.symm with h2|h2<;>rw[h2]at hb<;>cases hb
theorem x7:Qs (Xi #[g]):=Kr (gs:= #[g]) (fun i x hi hx=>by
 have:i=0:=by
  have:=(lE.1 hx).1;simp at this;exact this
 omega)
theorem cD {g g' :eZ}(hg:okG g)(h1:g'.dying=g.dying)(h2:g'.callers=g.callers)(h3:g'.frame=g.frame∨(∃v,g'.frame=g.frame.finish v)∨∃c,g'.frame=g.frame.raise c):okG g' :=by
 obtain⟨a,b,c⟩:=hg;unfold okG;rw[h1,h2];rcases h3 with h3|⟨v,h3⟩|⟨v,h3⟩<;>rw[h3]
 ·exact⟨a,b,c⟩
 ·exact⟨Zv a v,b,c.fin v⟩
 ·exact⟨Yc a v,b,c.rai v⟩
theorem gm {gs:Array eZ}(h:0<gs.size)(g' :eZ):((Xi gs).setIfInBounds 0 g').size=gs.size∧((Xi gs).setIfInBounds 0 g')[0]? =some g' ∧∀(i:Nat),0<i→((Xi gs).setIfInBounds 0 g')[i]? =gs[i]? :=by
 refine⟨by simp[Xi],by simp[Xi,h],fun i hi=> ?_⟩;unfold Xi;rw[lH (by omega),lH (by omega)]
theorem YL (g g' :eZ):(Xi #[g]).setIfInBounds 0 g' = #[g']:=by simp[Xi]
theorem Ue (hr:g.status= .running):step P (solo g w)=(runT P (crowd #[g] w none) 0).1:=by
 rw[step,stepT_solo hr];rfl
theorem vV {es:Array eS}(h:evens #[] es)(fn:FuncId)(pos:String)(t:lD):Deaf (t++MemOp.ofEvents 0 fn pos es) 0=Deaf t 0:=by
 rw[Deaf_own];exact h _
theorem xQ (fn:FuncId)(pos:String)(es:Array eS):∀op∈MemOp.ofEvents 0 fn pos es,op.g=0:=fun op a0=>by
 rw[ofEvents_eq]at a0;obtain⟨e,_,rfl⟩:=lJ.1 a0;rfl
theorem JU (hP:zH P)(hg:okG g)(hr:g.status= .running){m:Machine}(h:step P (solo g w)= .next m):
  2≤m.gs.size∨∃g' w',m=solo g' w' ∧okG g' ∧(g.dying≠none→g'.dying≠none)∧(∀t,g'.status≠ .sleeping t)∧(g.dying=none→g'.status= .running→g'.dying=none→∃ops,YT P g g' w w' ops):=by
 have a0:=FU hP true g hg w;have a4:=FT (Y3 w) P true g;have h1:∀u:eX,step P (solo g u)=(runT P (crowd #[g] u none) 0).1:=fun u=>Ue hr
 have hz:(#[g]:Array eZ)[0]? =some g:=rfl
 cases hs:stepG P true g w with
 |go g' w' es=>
  rw[hs]at a0 a4;have d5:step P (solo g w)= .next (solo g' w'):=step_solo_go hr hs;rw[d5]at h;injection h with h
  subst h;refine .inr ⟨g',w',rfl,a0.1,a0.2.1,a0.2.2.2,fun hd b1 a8 =>⟨MemOp.ofEvents 0 g.frame.fn g.frame.place es,?_⟩⟩;refine⟨hr,a4.1,a4.2.1,fun T d n hn hT=> ?_,fun gs sl h0 hl=> ?_,xQ _ _ _,vV (a0.2.2.1 a8 b1) _ _⟩
  ·have hb:=jt hP hT true g hd hg.1
   rw[hs]at hb;exact step_solo_go hr (hb ⟨b1,a8⟩ hn)
  ·refine⟨_,runT_crowd_go (P:=P) (sl:=sl) (i:=0) h0 (show stepG P (0==0) g w=_ from hs),by simp,?_,fun i hi=> ?_⟩
   ·have:0<gs.size:=(lE.1 h0).1
    simp[this]
   ·rw[lH (by omega),lK]
    cases hx:gs[i]? with
    |none=>rfl
    |some x=>
     rw[lL];congr 1
     unfold woken;split
     ·exact again_running _ (hl i x hi hx)
     ·rfl
 |comm g1 c b sh w1 es=>
  rw[hs]at a0 a4;obtain⟨k1,k2,k3,k4⟩:=a0;have e:=xe (P:=P) (sl:=none) hz hs;rw[h1 w,e]at h;simp only at h;generalize b5:communicate P (q_ none) (Xi #[g]) 0 g1 c b sh w1=x at h e;obtain⟨st,c6⟩:=x;simp only at h;subst h;obtain⟨g',w',hm,_,c7,b9,b6,b7,a7,c8,c9⟩:=Qo (gs' :=Xi #[g]) (rest' :=q_ none) x7 x7 rfl rfl b5 (T:=w1.tape) (d:=w1.drawn) (n:=m.world.drawn) (iA _) (fun _ _ _=>rfl) k3;rw[YL]at hm;have d4:m.world=w' :=by rw[hm]
  have b3:w1.tape=w.tape:=a4.1;have b2:w.drawn≤w1.drawn:=a4.2.1;have d3:∀t,g'.status≠ .sleeping t:=fun t ht=>by rcases b9 with h|h<;>rw[h]at ht<;>cases ht
  refine .inr ⟨g',w',hm,cD k1 c7 b6 b7,(fun hd=>by rw[c7,k2];exact hd),d3,fun hd b1 a8 =>⟨MemOp.ofEvents 0 g.frame.fn g.frame.place es++c6,?_⟩⟩;refine⟨hr,c9.trans b3,iB b2 c8,fun T d n hn hT=> ?_,fun gs sl h0 hl=> ?_,fun op b8=> ?_,fun t=> ?_⟩
  ·have hb:=jt hP hT true g hd hg.1
   rw[hs]at hb;have a5:=hb trivial (iB c8 hn);simp only[Ui,ZP]at a5;obtain⟨g2,w2,a6,b4,_⟩:=Qo (gs' :=Xi #[g]) (rest' :=q_ none) x7 x7 rfl rfl b5 (T:=T) (d:=d+(w1.drawn-w.drawn)) (n:=n) (by rw[d4];exact hn) (hT.later b3 b2) k3;rw[hm,YL]at a6;injection a6 with e1 e2
   have e3:g2=g' :=by
    have:=congrArg (fun a:Array eZ=>a[0]?) e2;simpa using this.symm
   subst e1 e3;rw[h1,xe (P:=P) (sl:=none) hz a5,b4,YL];rw[show d+(w1.drawn-w.drawn)+(w'.drawn-w1.drawn)=d+(w'.drawn-w.drawn)by omega];rfl
  ·obtain⟨g2,w2,a6,b4,_⟩:=Qo (gs' :=Xi gs) (rest' :=q_ sl) x7 (Kr hl) rfl rfl b5 (T:=w1.tape) (d:=w1.drawn) (n:=m.world.drawn) (iA _) (fun _ _ _=>rfl) k3
   rw[hm,YL]at a6;injection a6 with e1 e2
   have e3:g2=g' :=by
    have:=congrArg (fun a:Array eZ=>a[0]?) e2;simpa using this.symm
   subst e1 e3;obtain⟨a1,a2,a3⟩:=gm (lE.1 h0).1 g2;refine⟨_,?_,a1,a2,a3⟩;rw[xe (P:=P) (sl:=sl) h0 hs,show w1=re w1 w1.tape w1.drawn from rfl,b4];have:re w' w1.tape (w1.drawn+(w'.drawn-w1.drawn))=w' :=by
    rw[←c9,show w1.drawn+(w'.drawn-w1.drawn)=w'.drawn by omega];rfl
   rw[this];rfl
  ·rcases Array.mem_append.1 b8 with h|h
   ·exact xQ _ _ _ op h
   ·exact(a7 op h).1
  ·rw[←Array.append_assoc,ZG (fun op b8=>(a7 op b8).2.2)]
   exact vV k4 _ _ t
 |coroswitch g1 c ex w1 es=>
  rw[hs]at a0 a4;obtain⟨k1,k2,k3,k5,k4⟩:=a0;subst k5;have b3:w1.tape=w.tape:=a4.1;have b2:w.drawn≤w1.drawn:=a4.2.1;have e:=xd (P:=P) (sl:=none) hz hs;rw[h1 w,e]at h;simp only at h;unfold Vq at h
  cases hc:w1.heap[c]? with
  |none=>rw[hc]at h;cases h
  |some o=>
   rw[hc]at h
   cases o with
   |coro k=>
    cases k with
    |some j=>
     simp only at h;injection h with h
     rw[YL]at h;by_cases hj:j=0
     ·subst hj
      have a9:(#[({g1 with status:= .finished}:eZ)]).modify 0 (fun o=>{o with status:= .running})= #[{g1 with status:= .running}]:=by
       apply lM
       ·simp
       ·intro i h1 h2
        have hi:i=0:=by simp at h2;exact h2
        subst hi;rw[lN,if_pos rfl];rfl
      rw[a9]at h;refine .inr ⟨{g1 with status:= .running},{w1 with heap:=w1.heap.setIfInBounds c (.coro none)},h.symm,k1,(fun hd=>by show g1.dying≠none;rw[k2];exact hd),(fun t ht=>by cases ht),fun hd b1 a8 =>⟨MemOp.ofEvents 0 g.frame.fn g.frame.place es,?_⟩⟩;refine⟨hr,b3,b2,fun T d n hn hT=> ?_,fun gs sl h0 hl=> ?_,xQ _ _ _,vV k4 _ _⟩
      ·have hb:=jt hP hT true g hd hg.1
       rw[hs]at hb;have a5:=hb trivial hn;simp only[Ui,ZP]at a5;rw[h1,xd (P:=P) (sl:=none) hz a5];unfold Vq;rw[KZ,hc];simp only;rw[YL,a9];rfl
      ·obtain⟨a1,a2,a3⟩:=gm (lE.1 h0).1 ({g1 with status:= .finished}:eZ)
       refine⟨_,by rw[xd (P:=P) (sl:=sl) h0 hs];unfold Vq;rw[hc];rfl,?_,?_,fun i hi=> ?_⟩
       ·rw[Array.size_modify];exact a1
       ·rw[lO,if_pos rfl,a2];rfl
       ·rw[lO,if_neg (by omega)];exact a3 i hi
     ·have a9:(#[({g1 with status:= .finished}:eZ)]).modify j (fun o=>{o with status:= .running})= #[{g1 with status:= .finished}]:=by
       apply lM
       ·simp
       ·intro i h1 h2
        have hi:i=0:=by simp at h2;exact h2
        subst hi;rw[lN,if_neg hj]
      rw[a9]at h;exact .inr ⟨{g1 with status:= .finished},{w1 with heap:=w1.heap.setIfInBounds c (.coro none)},h.symm,k1,(fun hd=>by show g1.dying≠none;rw[k2];exact hd),(fun t ht=>by cases ht),(fun _ h=>by cases h)⟩
    |none=>
     simp only at h;have hd:=yX g1.frame k1.1 "coroswitch on exited coro" w1;generalize endThrow g1.frame "coroswitch on exited coro" w1=y at h hd
     cases y with
     |go g2 w2 d6=>
      injection h with h
      rw[YL]at h;exact .inr ⟨g2,w2,h.symm,hd.2.1,(fun _=>hd.1),hd.2.2,(fun _ _ h=>absurd h hd.1)⟩
     |_=>cases h
   |_=>cases h
 |spawn g1 ch w1 es=>
  rw[h1 w,show crowd #[g] w none=solo g w from rfl,runT_solo_spawn hs]at h;injection h with h
  subst h;exact .inl (by simp[duo])
 |ended o w1 es=>
  have:step P (solo g w)= .ended o w1:=by
   rw[h1 w];unfold runT crowd;simp only[qj hz,beq_self_eq_true,hs]
  rw[this]at h
  cases h
 |_=>rw[hs]at a0;exact a0.elim
end
section
variable {P:eA}{g:eZ}{w:eX}
theorem fA (h1:g.status≠ .running)(h2:∀t,g.status≠ .sleeping t){m:Machine}(h:step P (solo g w)= .next m):m=solo g w:=by
 have hc:g.canRun w.os.mono=false:=by
  unfold Goroutine.canRun
  cases hs:g.status<;>first|rfl|exact absurd hs h1|exact absurd hs (h2 _)
 unfold step stepT at h;have:move P (solo g w)= .machine (.next (solo g w))∨∃o v,move P (solo g w)= .machine (.ended o v):=by
  have ha:ahead (solo g w) false=none:=by
   unfold ahead solo
   cases hs:g.status<;>first|(simp[hs];done)|exact absurd hs (h2 _)
  simp only[move,ask,askOn,solo,runnable_eq,due]at ha⊢;by_cases hw:g.status= .waiting
  ·left
   simp[lP,hc,ha,pure,hw]
  ·right
   simp only[lP,List.range_zero,List.nil_append,List.size_toArray,List.length_cons,List.length_nil,lQ,pure,Sem.run,if_true,Bool.false_eq_true,if_false];simp[hc,ha,hw];generalize endWith w 2 _ _=e
   cases e<;>exact⟨_,_,rfl⟩
 rcases this with e|⟨o,v,e⟩<;>rw[e]at h<;>simp only at h
 ·injection h with h;exact h.symm
 ·cases h
def dm (g:eZ):Prop:=g.dying≠none∨g.status≠ .running
theorem jS (hP:zH P):∀(n:Nat) (g:eZ) (w:eX),okG g→(∀t,g.status≠ .sleeping t)→dm g→∀gf wf,runN P n (solo g w)= .next (solo gf wf)→dm gf
 |0,g,w,_,_,hl,gf,wf,h=>by
  injection h with h
  injection h with _ h1 _
  have:g=gf:=by
   have:=congrArg (fun a:Array eZ=>a[0]?) h1;simpa using this
  exact this▸hl
 |n+1,g,w,hg,ha,hl,gf,wf,h=>by
  simp only[runN]at h
  cases hs:step P (solo g w)with
  |ended o v=>rw[hs]at h;cases h
  |next m=>
   rw[hs]at h;simp only at h;by_cases hr:g.status= .running
   ·have hd:g.dying≠none:=hl.resolve_right (fun x=>x hr)
    rcases JU hP hg hr hs with h2|⟨g',w',rfl,a2,a1,a0,_⟩
    ·have:=kz h
     simp[solo]at this;omega
    ·exact jS hP n g' w' a2 a0 (.inl (a1 hd)) gf wf h
   ·rw[fA hr ha hs]at h
    exact jS hP n g w hg ha (.inr hr) gf wf h
structure Fit (g:eZ):Prop where
 ok:okG g
 run:g.status= .running
 dy:g.dying=none
theorem J2 (hP:zH P){n:Nat}(hf:Fit g){gf:eZ}{wf:eX}(a1:gf.status= .running∧gf.dying=none)(h:runN P (n+1) (solo g w)= .next (solo gf wf)):
  ∃g' w' ops,YT P g g' w w' ops∧Fit g' ∧step P (solo g w)= .next (solo g' w')∧runN P n (solo g' w')= .next (solo gf wf):=by
 simp only[runN]at h
 cases hs:step P (solo g w)with
 |ended o v=>rw[hs]at h;cases h
 |next m=>
  rw[hs]at h;simp only at h;rcases JU hP hf.ok hf.run hs with h2|⟨g',w',rfl,a0,a3,a2,ho⟩
  ·have:=kz h
   simp[solo]at this;omega
  ·have hl:¬dm g' :=fun hl=>by
    rcases jS hP n g' w' a0 a2 hl gf wf h with x|x
    ·exact x a1.2
    ·exact x a1.1
   have hr:g'.status= .running:=Classical.byContradiction fun x=>hl (.inr x)
   have hy:g'.dying=none:=Classical.byContradiction fun x=>hl (.inl x)
   obtain⟨ops,ho⟩:=ho hf.dy hr hy;exact⟨g',w',ops,ho,⟨a0,hr,hy⟩,rfl,h⟩
theorem Uc {w:eX}{T:Nat→iC→Nat}{d:Nat}(h:ZH w T d)(n:Nat):ZE w T d n:=fun k q _=>h k q
theorem jx (hP:zH P):∀(n:Nat) (g:eZ) (w:eX),Fit g→∀gf wf,gf.status= .running∧gf.dying=none→runN P n (solo g w)= .next (solo gf wf)→∀T d,ZH w T d→
  runN P n (solo g (re w T d))= .next (solo gf (re wf T (d+(wf.drawn-w.drawn))))∧w.drawn≤wf.drawn
 |0,g,w,hf,gf,wf,_,h,T,d,hT=>by
  injection h with h
  injection h with e0 h1 _
  subst e0;have:g=gf:=by
   have:=congrArg (fun a:Array eZ=>a[0]?) h1;simpa using this
  subst this;refine⟨?_,iA _⟩;rw[Nat.sub_self,Nat.add_zero];rfl
 |n+1,g,w,hf,gf,wf,hgf,h,T,d,hT=>by
  obtain⟨g',w',ops,ho,a0,hs,hr⟩:=J2 hP hf hgf h;have h1:=ho.solo T d w'.drawn (iA _) (Uc hT _);obtain⟨h2,h3⟩:=jx hP n g' w' a0 gf wf hgf hr T (d+(w'.drawn-w.drawn)) (hT.later ho.tape ho.drawn);refine⟨?_,iB ho.drawn h3⟩;simp only[runN,h1];rw[h2];congr 3
  have:=ho.drawn;omega
def xz (P:eA)(Q:eZ→eX→Prop)(g:eZ)(w:eX):Prop:=
 ∀S:eZ→eX→Prop,(∀g w,Q g w→S g w)→
  (∀(g:eZ) (w:eX) (f:Nat→eZ) (v:Nat→eX) (o:Nat→Array MemOp),g.status= .running→(∀d,YT P g (f d) (w.at d) (v d) (o d))→(∀d,S (f d) (v d))→S g w)→S g w
theorem xz.stop {P:eA}{Q:eZ→eX→Prop}{g:eZ}{w:eX}(h:Q g w):xz P Q g w:=fun _ a _=>a g w h
theorem xz.step {P:eA}{Q:eZ→eX→Prop}{g:eZ}{w:eX}(f:Nat→eZ)(v:Nat→eX)(o:Nat→Array MemOp)(hr:g.status= .running)(ho:∀d,YT P g (f d) (w.at d) (v d) (o d))(hw:∀d,xz P Q (f d) (v d)):xz P Q g w:=
 fun S a b=>b g w f v o hr ho fun d=>hw d S a b
theorem xz.ind {P:eA}{Q:eZ→eX→Prop}{a0:∀(g:eZ) (w:eX),xz P Q g w→Prop}
  (stop:∀{g:eZ} {w:eX} (h:Q g w),a0 g w (.stop h))
  (step:∀{g:eZ} {w:eX} (f:Nat→eZ) (v:Nat→eX) (o:Nat→Array MemOp) (hr:g.status= .running) (ho:∀d,YT P g (f d) (w.at d) (v d) (o d)) (hw:∀d,xz P Q (f d) (v d)),(∀d,a0 (f d) (v d) (hw d))→a0 g w (.step f v o hr ho hw))
  {g:eZ}{w:eX}(h:xz P Q g w):a0 g w h:=
 (h (fun g w=>∃x:xz P Q g w,a0 g w x) (fun _ _ q=>⟨.stop q,stop q⟩) (fun _ _ f v o hr ho k=>⟨.step f v o hr ho fun d=>(k d).1,step f v o hr ho _ fun d=>(k d).2⟩)).2
def Yt (P:eA)(Q:eZ→eX→Prop)(g:eZ)(w:eX):Prop:=
 ∀T d,∃n gf wf,runN P n (solo g (re w T d))= .next (solo gf wf)∧Q gf wf∧gf.status= .running∧gf.dying=none
variable {Q:eZ→eX→Prop}
theorem Yt.next (hP:zH P)(hQ:∀g w T d,Q g w→Q g (re w T d))(hf:Fit g)(hR:Yt P Q g w)(hq:¬Q g w)(d0:Nat){g' :eZ}{w' :eX}{ops:Array MemOp}(ho:YT P g g' (w.at d0) w' ops)(a2 :Fit g'):Yt P Q g' w' :=by
 intro T d;have a4:d0≤w'.drawn:=ho.drawn;obtain⟨n,gf,wf,hr,a1,a0⟩:=hR (fun j q=>if j<w'.drawn-d0 then w.tape (d0+j) q else T (d+(j-(w'.drawn-d0))) q) 0;have hs:=ho.solo (fun j q=>if j<w'.drawn-d0 then w.tape (d0+j) q else T (d+(j-(w'.drawn-d0))) q) 0 w'.drawn (iA _) (fun k q hk=>by
  have a3 :k<w'.drawn-d0:=hk;simp only[lQ,a3,if_true];rfl)
 cases n with
 |zero=>
  exfalso
  injection hr with h
  injection h with e0 h1 _
  subst e0;have:g=gf:=by
   have:=congrArg (fun a:Array eZ=>a[0]?) h1;simpa using this
  subst this;have h9:=hQ _ _ w.tape w.drawn a1;exact hq h9
 |succ n=>
  simp only[runN]at hr;rw[show re w (fun j q=>if j<w'.drawn-d0 then w.tape (d0+j) q else T (d+(j-(w'.drawn-d0))) q) 0=re (w.at d0) (fun j q=>if j<w'.drawn-d0 then w.tape (d0+j) q else T (d+(j-(w'.drawn-d0))) q) 0 from rfl,hs]at hr;simp only at hr;obtain⟨h2,_⟩:=jx hP n g' _ a2 gf wf a0 hr T d (fun k q=>by
   show T (d+k) q=(if 0+(w'.drawn-d0)+k<w'.drawn-d0 then w.tape (d0+(0+(w'.drawn-d0)+k)) q else T (d+(0+(w'.drawn-d0)+k-(w'.drawn-d0))) q)
   rw[if_neg (by omega)];congr 1
   omega)
  exact⟨n,gf,_,h2,hQ _ _ _ _ a1,a0⟩
theorem Gn (hP:zH P)(hQ:∀g w T d,Q g w→Q g (re w T d))(hf:Fit g)(hR:Yt P Q g w)(hq:¬Q g w)(d:Nat):∃g' w' ops,YT P g g' (w.at d) w' ops∧Fit g' :=by
 obtain⟨n,gf,wf,hr,a2,a1⟩:=hR w.tape d
 cases n with
 |zero=>
  exfalso
  injection hr with h
  injection h with e0 h1 _
  subst e0;have:g=gf:=by
   have:=congrArg (fun a:Array eZ=>a[0]?) h1;simpa using this
  subst this;have h9:=hQ _ _ w.tape w.drawn a2;exact hq h9
 |succ n=>
  obtain⟨g',w',ops,ho,a0,_⟩:=J2 hP hf a1 hr;exact⟨g',w',ops,ho,a0⟩
structure FF (P:eA)(Q:eZ→eX→Prop)(tp:Nat→iC→Nat)where
 g:eZ
 w:eX
 fit:Fit g
 reach:Yt P Q g w
 none:¬xz P Q g w
 tape:w.tape=tp
theorem FF.next (hP:zH P)(hQ:∀g w T d,Q g w→Q g (re w T d)){tp:Nat→iC→Nat}(s:FF P Q tp):∃x:Nat×FF P Q tp,∃ops,YT P s.g x.2.g (s.w.at x.1) x.2.w ops:=by
 have hq:¬Q s.g s.w:=fun h=>s.none (.stop h)
 have h1:=Gn hP hQ s.fit s.reach hq;have h2:¬∀d,∃x:eZ×eX×Array MemOp,(YT P s.g x.1 (s.w.at d) x.2.1 x.2.2)∧xz P Q x.1 x.2.1:=by
  intro h;obtain⟨f,hf⟩:=Classical.axiomOfChoice h;exact s.none (.step (fun d=>(f d).1) (fun d=>(f d).2.1) (fun d=>(f d).2.2) s.fit.run (fun d=>(hf d).1) (fun d=>(hf d).2))
 obtain⟨d,hd⟩:=Classical.not_forall.1 h2;obtain⟨g',w',ops,ho,a0⟩:=h1 d;have hw:¬xz P Q g' w' :=fun h=>hd ⟨(g',w',ops),ho,h⟩
 exact⟨(d,⟨g',w',a0,s.reach.next hP hQ s.fit hq d ho a0,hw,ho.tape.trans s.tape⟩),ops,ho⟩
theorem kw (hP:zH P)(hQ:∀g w T d,Q g w→Q g (re w T d))(hf:Fit g)(hR:Yt P Q g w):xz P Q g w:=by
 classical
 refine Classical.byContradiction fun hn=> ?_
 obtain⟨nx,a8⟩:=Classical.axiomOfChoice (fun s:FF P Q w.tape=>s.next hP hQ);let s0:FF P Q w.tape:=⟨g,w,hf,hR,hn,rfl⟩
 let s:Nat→FF P Q w.tape:=fun k=>Nat.rec s0 (fun _ x=>(nx x).2) k
 have b1:s 0=s0:=rfl;have b2:∀k,s (k+1)=(nx (s k)).2:=fun k=>rfl
 let D:Nat→Nat:=fun k=>(nx (s k)).1
 have a3:∀k,∃ops,YT P (s k).g (s (k+1)).g ((s k).w.at (D k)) (s (k+1)).w ops:=fun k=>a8 (s k)
 let c:Nat→Nat:=fun k=>(s (k+1)).w.drawn-D k
 let e:Nat→Nat:=fun k=>Nat.rec 0 (fun i x=>x+c i) k
 have a9:e 0=0:=rfl;have a2:∀k,e (k+1)=e k+c k:=fun k=>rfl
 have a0:∀a b,a≤b→e a≤e b:=by
  intro a b h;induction h with
  |refl=>exact iA _
  |step _ ih=>rw[Nat.succ_eq_add_one,a2];omega
 let T:Nat→iC→Nat:=fun j q=>if h:∃k,e k≤j∧j<e (k+1)then w.tape (D h.choose+(j-e h.choose)) q else 0
 have hT:∀k j q,j<c k→T (e k+j) q=w.tape (D k+j) q:=by
  intro k j q hj;have a1:∃i,e i≤e k+j∧e k+j<e (i+1):=⟨k,by omega,by rw[a2];omega⟩
  have hc:=a1.choose_spec;have hk:a1.choose=k:=by
   rcases Nat.lt_trichotomy a1.choose k with h|h|h
   ·have:=a0 (a1.choose+1) k h
    omega
   ·exact h
   ·have:=a0 (k+1) a1.choose h
    rw[a2]at this;omega
  show(if h:∃i,e i≤e k+j∧e k+j<e (i+1)then w.tape (D h.choose+(e k+j-e h.choose)) q else 0)=_;rw[dif_pos a1,hk];congr 1
  omega
 have a4:∀k,runN P k (solo g (re w T 0))= .next (solo (s k).g (re (s k).w T (e k))):=by
  intro k;induction k with
  |zero=>rfl
  |succ k ih=>
   rw[runN_add,ih];simp only;obtain⟨ops,ho⟩:=a3 k;have h1:=ho.solo T (e k) (s (k+1)).w.drawn (iA _) (fun j q hj=>by
    have a7 :j<c k:=hj;rw[hT k j q a7];show w.tape (D k+j) q=(s k).w.tape (D k+j) q;rw[(s k).tape])
   simp only[runN];rw[show re (s k).w T (e k)=re ((s k).w.at (D k)) T (e k)from rfl,h1];simp only;rfl
 obtain⟨n,gf,wf,hr,a5,_⟩:=hR T 0;rw[a4 n]at hr;injection hr with h
 injection h with e0 h1 _
 have a6:(s n).g=gf:=by
  have:=congrArg (fun a:Array eZ=>a[0]?) h1;simpa using this
 rw[←e0,←a6]at a5;have h9:=hQ _ _ (s n).w.tape (s n).w.drawn a5;exact(s n).none (.stop h9)
end
open Go.ConcN (sumTo upd sumTo_upd upd_ne upd_same)
def x9 (t:lD):Prop:=∃B,Past (fun _=>False) B t
theorem uh (u:List MemOp):∃B,∀op∈u,op.act.low B:=by
 induction u with
 |nil=>exact⟨0,fun _ h=>by cases h⟩
 |cons x u ih=>
  obtain⟨B,hB⟩:=ih;have hx:∃B',x.act.low B' :=by
   cases x.act with
   |access e=>
    obtain⟨a2,wr,sy⟩:=e
    cases a2 with
    |cell a=>exact⟨a.block+1,lR _⟩
    |obj r=>exact⟨r+1,lR _⟩
    |output=>exact⟨0,trivial⟩
    |goroutines=>exact⟨0,trivial⟩
    |mark m=>exact⟨0,trivial⟩
   |mark m=>
    cases m with
    |acquire a=>exact⟨a.block+1,lR _⟩
    |release a=>exact⟨a.block+1,lR _⟩
    |releaseMerge a=>exact⟨a.block+1,lR _⟩
    |read a=>exact⟨a.block+1,lR _⟩
    |write a=>exact⟨a.block+1,lR _⟩
    |_=>exact⟨0,trivial⟩
   |go n=>exact⟨0,trivial⟩
   |start=>exact⟨0,trivial⟩
   |send c n=>exact⟨c+1,lR _⟩
   |sendDone c n=>exact⟨c+1,lR _⟩
   |recv c n k=>exact⟨c+1,lR _⟩
   |recvDone c n=>exact⟨c+1,lR _⟩
   |close c=>exact⟨c+1,lR _⟩
   |recvClosed c=>exact⟨c+1,lR _⟩
  obtain⟨B',a1⟩:=hx;refine⟨B+B',fun op a0=> ?_⟩;rcases List.mem_cons.1 a0 with rfl|a0
  ·exact MemAct.low_mono (by omega) a1
  ·exact MemAct.low_mono (by omega) (hB op a0)
theorem x9.own {t:lD}(h:x9 t){u:Array MemOp}(hu:∀op∈u,op.g=0)(hd:Deaf (t++u) 0=Deaf t 0):x9 (t++u):=by
 obtain⟨B,hB⟩:=h;obtain⟨B',a0⟩:=uh u.toList;exact⟨B+B',(hB.mono (Nat.le_add_right B B')).app0 hu (fun _ _ _ _ h=>h.elim) hd (fun op a1=>MemAct.low_mono (by omega) (a0 op (by simpa using a1)))⟩
theorem x9.mute {t:lD}(h:x9 t){g:Nat}(hg:g≠0){fn:FuncId}{pos:String}{es:Array eS}(hm:∀e∈es,e.mute=true):x9 (t++MemOp.ofEvents g fn pos es):=
 let⟨B,hB⟩:=h;⟨B,hB.mute hg hm⟩
def To (P:eA)(Q:eZ→eX→Prop)(g:eZ)(w:eX):Prop:=
 ∀(gs:Array eZ) (sl:Option (Nat×Nat)) (t:lD) (q:Nat→Nat),gs[0]? =some g→Leavers P t gs q→x9 t→
  ∃(N:Nat) (gs' :Array eZ) (g' :eZ) (w' :eX) (sl' :Option (Nat×Nat)) (t' :lD) (q' :Nat→Nat),
   runNT P N (crowd gs w sl) t=(.next (crowd gs' w' sl'),t')∧gs'[0]? =some g' ∧Q g' w' ∧Leavers P t' gs' q' ∧x9 t'
section
variable {P:eA}{Q:eZ→eX→Prop}{g:eZ}{w:eX}
theorem yC {t:lD}{gs:Array eZ}{q:Nat→Nat}(hL:Leavers P t gs q):∀(i:Nat) h,0<i→gs[i]? =some h→h.status= .running∨h.status= .finished:=fun i h hi hx=>(hL.old i h hi hx).status
theorem Ks {gs:Array eZ}{sl:Option (Nat×Nat)}{t:lD}{q:Nat→Nat}{i:Nat}{b:eZ}(hi:0<i)(hb:gs[i]? =some b)(hr:b.status= .running)(h0:gs[0]? =some g)(hg:g.status= .running)(hL:Leavers P t gs q)(hP:x9 t):
  ∃gs' ops q',runT P (crowd gs w sl) i=(.next (crowd gs' w sl),ops)∧gs'.size=gs.size∧gs'[0]? =some g∧Leavers P (t++ops) gs' q' ∧x9 (t++ops)∧sumTo gs'.size q' <sumTo gs.size q:=by
 have hq:=hL.old i b hi hb;have a7:(i==0)=false:=by simp;omega
 have a6:i<gs.size:=(lE.1 hb).1
 cases a4:q i with
 |zero=>rw[a4]at hq;rw[hq.1]at hr;cases hr
 |succ k=>
  rw[a4]at hq;rcases hq with⟨hf,_⟩|⟨_,g',es,hm,a5,a9⟩
  ·rw[hf]at hr;cases hr
  have a1:=runT_crowd_go (P:=P) (sl:=sl) (i:=i) (w:=w) hb (by rw[a7];exact a5 w);have a3:((gs.map (woken P b g' w)).setIfInBounds i g').size=gs.size:=by simp
  have b1:sumTo gs.size (upd q i k)+(k+1)=sumTo gs.size q+k:=by
   have:=sumTo_upd q k id a6;simpa[a4]using this
  refine⟨_,_,upd q i k,a1,a3,?_,⟨fun j x hj hx=> ?_,fun j hj=> ?_⟩,hP.mute (by omega) hm,by rw[a3];omega⟩
  ·have a8:i≠0:=by omega
   rw[lH a8,lK,h0];simp only[lL];congr 1
   unfold woken;split
   ·exact again_running _ (.inl hg)
   ·rfl
  ·by_cases a2:i=j
   ·subst a2
    rw[Array.getElem?_setIfInBounds_self_of_lt (by simpa using a6)]at hx;obtain rfl:=Option.some.inj hx;rw[upd_same,Deaf_own];exact a9
   ·rw[lH a2,lK]at hx
    obtain⟨y,hy,rfl⟩:=Option.map_eq_some_iff.1 hx;have h1:=hL.old j y hj hy;rw[woken_quitsD h1,upd_ne _ _ (fun e=>a2 e.symm),Deaf_other t (g' :=i) a2 _ (fun op a0=>by
     rw[ofEvents_eq]at a0;obtain⟨e,_,rfl⟩:=lJ.1 a0;rfl)]
    exact h1
  ·rw[Deaf_other t (g' :=i) (by rw[a3]at hj;omega) _ (fun op a0=>by
    rw[ofEvents_eq]at a0;obtain⟨e,_,rfl⟩:=lJ.1 a0;rfl)]
   exact hL.above j (by rw[a3]at hj;exact hj)
theorem oF (hQ:∀g w T d,Q g w→Q g (re w T d))(h:xz P Q g w):To P Q g w:=by
 induction h using xz.ind with
 |stop hq=>exact fun gs sl t q h0 hL hP=>⟨0,gs,_,_,sl,t,q,rfl,h0,hq,hL,hP⟩
 | @step g w f v o hr ho _ ih=>
  suffices H:∀(M:Nat) (gs:Array eZ) (d0:Nat) (sl:Option (Nat×Nat)) (t:lD) (q:Nat→Nat),sumTo gs.size q<M→gs[0]? =some g→Leavers P t gs q→x9 t→
    ∃(N:Nat) (gs' :Array eZ) (g' :eZ) (w' :eX) (a2 :Option (Nat×Nat)) (t' :lD) (q' :Nat→Nat),
     runNT P N (crowd gs (w.at d0) sl) t=(.next (crowd gs' w' a2),t')∧gs'[0]? =some g' ∧Q g' w' ∧Leavers P t' gs' q' ∧x9 t' by
   intro gs sl t q h0 hL hP;exact H _ gs w.drawn sl t q (lR _) h0 hL hP
  intro M;induction M with
  |zero=>
   intro gs d0 sl t q hM;exact absurd hM (Nat.not_lt_zero _)
  |succ M b9=>
   intro gs d0 sl t q hM h0 hL hP;have b6:∀x∈gs,awake x:=by
    intro x hx;obtain⟨i,hi,rfl⟩:=lF.1 hx;rcases lG i with rfl|a0
    ·have:gs[0]=g:=by simpa[lI hi]using h0
     rw[this];exact awake_of (.inl hr)
    ·exact awake_of ((hL.old i _ a0 (lI hi)).status.elim .inl fun x=> .inr (.inr x))
   obtain⟨i,b,d,a2,hi,hb,b4⟩:=crowd_pick (P:=P) (w:=w.at d0) (sl:=sl) b6 ⟨0,g,h0,hr⟩;rcases lG i with rfl|a0
   ·obtain rfl:b=g:=by rw[h0]at hi;exact(Option.some.inj hi).symm
    obtain⟨a3,b2,b8,a5,a9⟩:=(ho d).crowd gs a2 h0 (yC hL);have a7:Leavers P (t++o d) a3 q:=⟨fun j x hj hx=>by
      rw[Deaf_other t (g' :=0) (by omega) _ (ho d).own];exact hL.old j x hj (by rw[←a9 j hj];exact hx),fun j hj=>by
      have b7:0<gs.size:=(lE.1 h0).1;rw[Deaf_other t (g' :=0) (by omega) _ (ho d).own];exact hL.above j (by omega)⟩
    obtain⟨N,gs',g',w',a1,t',q',b3,a4,b1,a6,a8⟩:=ih d a3 a2 (t++o d) q a5 a7 (hP.own (ho d).own ((ho d).deaf t));refine⟨N+1,gs',g',w',a1,t',q',?_,a4,b1,a6,a8⟩;simp only[runNT,b4];rw[show(w.at d0).at d=w.at d from rfl,b2];exact b3
   ·obtain⟨a3,ops,q1,b2,b8,a5,a7,b5,b7⟩:=Ks (P:=P) (w:=w.at d) (sl:=a2) a0 hi hb h0 hr hL hP
    obtain⟨N,gs',g',w',a1,t',q',b3,a4,b1,a6,a8⟩:=b9 a3 d a2 (t++ops) q1 (by omega) a5 a7 b5;refine⟨N+1,gs',g',w',a1,t',q',?_,a4,b1,a6,a8⟩;simp only[runNT,b4];rw[show(w.at d0).at d=w.at d from rfl,b2];exact b3
theorem To.done (h:Q g w):To P Q g w:=fun gs sl t q h0 hL hP=>⟨0,gs,g,w,sl,t,q,rfl,h0,h,hL,hP⟩
theorem To.trans {Q' :eZ→eX→Prop}(h:To P Q g w)(h' :∀g w,Q g w→To P Q' g w):To P Q' g w:=by
 intro gs sl t q h0 hL hP;obtain⟨N,a0,g1,w1,a8,t1,q1,hr,h1,hq,a2,a4⟩:=h gs sl t q h0 hL hP;obtain⟨N2,a1,g2,w2,a9,t2,q2,a7,h2,a6,a3,a5⟩:=h' g1 w1 hq a0 a8 t1 q1 h1 a2 a4;refine⟨N+N2,a1,g2,w2,a9,t2,q2,?_,h2,a6,a3,a5⟩;rw[runNT_add,hr];exact a7
theorem To.lone (hP:zH P)(hQ:∀g w T d,Q g w→Q g (re w T d))(hf:Fit g)(hR:Yt P Q g w):To P Q g w:=oF hQ (kw hP hQ hf hR)
end
