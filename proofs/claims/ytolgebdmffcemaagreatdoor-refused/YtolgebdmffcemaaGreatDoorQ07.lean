import Derived.Test.YtolgebdmffcemaaGreatDoorQ06
set_option linter.all false
set_option maxHeartbeats 20000000
set_option maxRecDepth 1000000
namespace Go.Proofs.YtolgebdmffcemaaGreatDoor
open Go Go.Conc
open Go.ConcN (sumTo upd sumTo_upd upd_ne upd_same)
section
variable {P:Program}{Old:Blk}{c k:Nat}{z:Value}{Fin:Blk→Goroutine→World→Prop}{A0 AK:Blk}{gs:Array Goroutine}{w w0:World}{t:Trace}{q:Nat→Nat}{sl:Option (Nat×Nat)}
def Is0 (P:Program)(Old:Blk)(c:Nat)(z:Value)(Fin:Blk→Goroutine→World→Prop)(vs:List Value)(A0:Blk)(a:Goroutine)(w:World):Prop:=
 (a.status= .running∧OW P true Old (Yk P Old c z Fin vs) A0 a w)∨∃g',a=parked (core g') #[rcase c z] (.recv true)∧∀w1,Rel Old A0 w w1→Yk P Old c z Fin vs A0 g' w1
theorem JG (h:k≠0):(k==0)=false:=by simpa using h
theorem oq (E:Env P Old c k A0 AK gs w t q){a b:Goroutine}(h0:gs[0]? =some a)(hk:gs[k]? =some b)(a5:Fj P Old c AK b w)(b4:Rel Old Zp w0 w)(ha:Is0 P Old c z Fin [] A0 a w):
  ∃a7 w1 ops,runT P (crowd gs w sl) k=(.next (crowd a7 w1 sl),ops)∧zX P (End Old Fin w0) a7 w1 sl (t++ops):=by
 obtain⟨_,c8,g2,es,n,a0,b8,hq⟩:=a5;obtain⟨s,r,tm,hc⟩:=E.ch;have a5:c<w.heap.size:=(Array.getElem?_eq_some_iff.1 hc).1;have a1:=runT_crowd_go (P:=P) (sl:=sl) (i:=k) (w:=w) hk (by rw[JG E.k0];exact a0 s r tm hc);rw[JS]at a1;have b5:=oG (w:=w) a5 0 #[] true s r tm;generalize hw:w.setChan c 0 #[] true s r tm=w1 at*;have a4:∀A:Blk,¬A c→Rel Old A w w1:=fun A hA=>by rw[←hw];exact Rel.chan hA E.nc.2.2 ..
 have a6:w1.heap.size=w.heap.size:=by rw[←hw];simp[World.setChan]
 refine⟨_,_,_,a1,?_⟩;obtain⟨pc,c9⟩:=uQ.new (c:=c) (fn:=b.frame.fn) (pos:=b.frame.place) E.mid E.k0 E.apart b8;have c6:g2.status= .running∨g2.status= .finished:=hq.status;have d3:∀o:Goroutine,woken P b g2 w1 o=o.again w1:=fun o=>by
  unfold woken;rw[if_pos];rcases c6 with h|h<;>simp[c8,h]
 have a9:=E.k0;have b1:=E.ks;have a8:∀op∈MemOp.ofEvents k b.frame.fn b.frame.place (es.push ⟨.obj c,true,true⟩),op.g=k:=fun op b2=>by
  rw[ofEvents_eq]at b2;obtain⟨e,_,rfl⟩:=Array.mem_map.1 b2;rfl
 have EC:vG P Old c k A0 AK ((gs.map (woken P b g2 w1)).setIfInBounds k g2) w1 (t++MemOp.ofEvents k b.frame.fn b.frame.place (es.push ⟨.obj c,true,true⟩)) pc (upd q k n):=by
  refine⟨a9,by simpa using b1,fun i x hi a3 hx=> ?_,⟨g2,by rw[Array.getElem?_setIfInBounds_self_of_lt (by simpa using b1)],by rw[upd_same];exact hq⟩,fun j hj=> ?_,E.apart,fun b hb=>by rw[a6];exact E.s0 b hb,fun b hb=>by rw[a6];exact E.sK b hb,fun b hb=>by rw[a6];exact E.sO b hb,E.nc,⟨s,r,tm,b5⟩,c9⟩
  ·rw[Array.getElem?_setIfInBounds_ne (fun e=>a3 e.symm),Array.getElem?_map]at hx
   obtain⟨y,hy,rfl⟩:=Option.map_eq_some_iff.1 hx;have b3:=E.lv i y hi a3 hy;rw[woken_quitsD b3,upd_ne _ _ a3,Deaf_other t (fun e=>a3 e.symm) _ a8];exact b3
  ·have c7 :gs.size≤j:=by simpa using hj
   rw[Deaf_other t (by omega) _ a8];exact E.above j c7
 have a2 :((gs.map (woken P b g2 w1)).setIfInBounds k g2)[0]? =some (a.again w1):=by
  rw[Array.getElem?_setIfInBounds_ne a9,Array.getElem?_map,h0,Option.map_some,d3]
 rcases ha with⟨b7,b6⟩|⟨g',rfl,b9⟩
 ·rw[again_running _ (.inl b7)]at a2
  exact ju b6 w1 _ sl _ pc _ (a4 A0 E.nc.1) (b4.trans (a4 Zp (fun e=>e))) EC a2
 ·rw[again_recv_closed b5]at a2
  exact ju (wb:=w1) (.stop fun w2 h2=>(b9 w2 ((a4 A0 E.nc.1).trans h2)).again) w1 _ sl _ pc _ (Rel.refl _ _ _) (b4.trans (a4 Zp (fun e=>e))) EC a2
def GJ (P:Program)(Old:Blk)(c k:Nat)(z:Value)(Fin:Blk→Goroutine→World→Prop)(w0:World)(vs:List Value):Prop:=
 ∀(A0 AK:Blk) (gs:Array Goroutine) (w:World) (sl:Option (Nat×Nat)) (t:Trace) (q:Nat→Nat) (a b:Goroutine),Rel Old Zp w0 w→Env P Old c k A0 AK gs w t q→gs[0]? =some a→gs[k]? =some b→OW P true Old (Yk P Old c z Fin vs) A0 a w→OW P false Old (qx P Old c vs) AK b w→zX P (End Old Fin w0) gs w sl t
theorem FP {vs:List Value}(a8:∀v b1,vs=v::b1 →GJ P Old c k z Fin w0 b1){g' :Goroutine}{b:Goroutine}{wb:World}(h:OW P false Old (qx P Old c vs) AK b wb):∀(w:World) (gs:Array Goroutine) (sl:Option (Nat×Nat)) (t:Trace) (q:Nat→Nat),Rel Old AK wb w→Rel Old Zp w0 w→Env P Old c k A0 AK gs w t q→
  gs[0]? =some (parked (core g') #[rcase c z] (.recv true))→(∀w1,Rel Old A0 w w1→Yk P Old c z Fin vs A0 g' w1)→gs[k]? =some b→zX P (End Old Fin w0) gs w sl t:=by
 have nr:¬(parked (core g') #[rcase c z] (.recv true)).status= .running:=fun e=>by cases e
 have ca:kA c (parked (core g') #[rcase c z] (.recv true)):= .inr (.inl ⟨_,_,_,rfl⟩);induction h using OW.ind with
 | @stop AK b wb b6=>
  suffices H:∀(M:Nat) (w:World) (gs:Array Goroutine) (sl:Option (Nat×Nat)) (t:Trace) (q:Nat→Nat),sumTo gs.size q<M→Rel Old AK wb w→Rel Old Zp w0 w→Env P Old c k A0 AK gs w t q→gs[0]? =some (parked (core g') #[rcase c z] (.recv true))→(∀w1,Rel Old A0 w w1→Yk P Old c z Fin vs A0 g' w1)→gs[k]? =some b→zX P (End Old Fin w0) gs w sl t from
   fun w gs sl t q hr a5 E h0 hR hk=>H _ w gs sl t q (Nat.lt_succ_self _) hr a5 E h0 hR hk
  intro M;induction M with
  |zero=>exact fun w gs sl t q hM=>absurd hM (Nat.not_lt_zero _)
  |succ M ih=>
   intro w gs sl t q hM hr a5 E h0 hR hk;have b5:b.status= .running:=(b6 w hr).run;obtain⟨d,a4,a3⟩:=E.turn (sl:=sl) h0 hk ca (.inl (.inl b5)) (.inr b5);have a7:=hr.trans (Rel.at Old AK w d);have a1:=a5.trans (Rel.at Old Zp w d);rcases a3 with⟨h,_⟩|⟨_,a0⟩|⟨gs',ops,q',a0,E',b2,b3,d4⟩
   ·exact absurd h nr
   ·have hS:=b6 _ a7
    cases vs with
    |nil=>
     obtain⟨e1,w1,ops,a2,a6⟩:=oq (sl:=a4) (E.at d) h0 hk hS a1 (.inr ⟨g',rfl,fun w1 h1=>hR w1 ((Rel.at Old A0 w d).trans h1)⟩);exact zX.step (a0.trans a2) a6
    |cons v b1 =>
     obtain⟨_,g2,z',es,b8,b9,b4⟩:=hS;obtain⟨s,r,tm,hc⟩:=(E.at d).ch;have hp:partners (gs.setIfInBounds k ph) c false=[(0,0)]:=kH (fun e=>E.k0 e.symm) h0 (by rw[offersAt_parked_recv,if_pos rfl]) (fun m o d6 d5 ho=>E.free m o d5 d6 ho);have a2:=crowd_send_meets (P:=P) (sl:=a4) hk (by rw[JG E.k0];exact b8) hc (fun e=>E.k0 e.symm) h0 hp;refine zX.step (a0.trans a2) ?_;rw[←Array.append_assoc];have E1:=(E.at d).stepK (gs' :=gs) (fn:=b.frame.fn) (pos:=b.frame.place) (yA.look (w.at d) b9) rfl (fun _ _=>rfl);have d3:=E.ks;have d7:0<gs.size:=(Array.getElem?_eq_some_iff.1 h0).1;have E2:=E1.comm (gs' :=(gs.setIfInBounds 0 ((core g').finishComm P #[rcase c z] (.recv true) 0 v true)).setIfInBounds k (g2.finishComm P #[scase c v z'] .send 0 undef false)) (oD (c:=c) (i:=k) (j:=0) (f1:=g2.frame.fn) (f2:=(core g').frame.fn) (p1:=g2.frame.place) (p2:=(core g').frame.place) (s:=s) (r:=r) (cap:=0)) (by simp) (fun j c8 c9=>by rw[Array.getElem?_setIfInBounds_ne (fun e=>c9 e.symm),Array.getElem?_setIfInBounds_ne (fun e=>c8 e.symm)]) (s+1) (r+1) tm;refine a8 v b1 rfl A0 AK _ _ a4 _ q ((core g').finishComm P #[rcase c z] (.recv true) 0 v true) (g2.finishComm P #[scase c v z'] .send 0 undef false) (a1.trans (Rel.chan (fun e=>e) E.nc.2.2 ..)) E2 ?_ ?_ ?_ ?_
     ·rw[Array.getElem?_setIfInBounds_ne E.k0,Array.getElem?_setIfInBounds_self_of_lt d7]
     ·rw[Array.getElem?_setIfInBounds_self_of_lt (by simpa using d3)]
     ·rw[finishComm_recv]
      exact(xl ..).1 ((hR _ (Rel.at Old A0 w d)).2 _ (Rel.chan E.nc.1 E.nc.2.2 ..))
     ·rw[finishComm_send]
      exact(vS ..).1 (b4 _ (Rel.chan E.nc.2.1 E.nc.2.2 ..))
   ·exact zX.step a0 (ih _ gs' a4 _ q' (by omega) a7 a1 E' b2 (fun w1 h1=>hR w1 ((Rel.at Old A0 w d).trans h1)) b3)
 | @step AK b wb f v e B hs h1 _ d9=>
  suffices H:∀(M:Nat) (w:World) (gs:Array Goroutine) (sl:Option (Nat×Nat)) (t:Trace) (q:Nat→Nat),sumTo gs.size q<M→Rel Old AK wb w→Rel Old Zp w0 w→Env P Old c k A0 AK gs w t q→gs[0]? =some (parked (core g') #[rcase c z] (.recv true))→(∀w1,Rel Old A0 w w1→Yk P Old c z Fin vs A0 g' w1)→gs[k]? =some b→zX P (End Old Fin w0) gs w sl t from
   fun w gs sl t q hr a5 E h0 hR hk=>H _ w gs sl t q (Nat.lt_succ_self _) hr a5 E h0 hR hk
  intro M;induction M with
  |zero=>exact fun w gs sl t q hM=>absurd hM (Nat.not_lt_zero _)
  |succ M ih=>
   intro w gs sl t q hM hr a5 E h0 hR hk;obtain⟨d,a4,a3⟩:=E.turn (sl:=sl) h0 hk ca (.inl (.inl hs)) (.inr hs);have a7:=hr.trans (Rel.at Old AK w d);have a1:=a5.trans (Rel.at Old Zp w d);rcases a3 with⟨h,_⟩|⟨_,a0⟩|⟨gs',ops,q',a0,E',b2,b3,d4⟩
   ·exact absurd h nr
   ·obtain⟨c7,hG⟩:=h1 _ a7
    have b7:∃s r tm,(v (w.at d)).heap[c]? =some (.chan 0 #[] false s r tm):=((E.at d).stepK (gs' :=gs) (fn:=b.frame.fn) (pos:=b.frame.place) hG rfl (fun _ _=>rfl)).ch
    obtain⟨gs',a2,d8,c6,a9⟩:=qk (P:=P) (sl:=a4) (c:=c) hk (by rw[JG E.k0];exact c7) (fun j o _ hj=>E.calm h0 hk ca (.inl (.inl hs)) j o hj) b7;refine zX.step (a0.trans a2) (d9 _ a7 _ gs' a4 _ q (Rel.refl _ _ _) (a1.trans (hG.none E.apart.oK E.sO)) ((E.at d).stepK hG d8 a9) (by rw[a9 0 (fun e=>E.k0 e.symm)];exact h0) (fun w1 h1=>hR w1 (((Rel.at Old A0 w d).trans (hG.rel E.apart.ok E.apart.oK E.s0 E.sO)).trans h1)) c6)
   ·exact zX.step a0 (ih _ gs' a4 _ q' (by omega) a7 a1 E' b2 (fun w1 h1=>hR w1 ((Rel.at Old A0 w d).trans h1)) b3)
theorem FN {v:Value}{a7 :List Value}(a8:GJ P Old c k z Fin w0 a7){g2:Goroutine}{z' :Value}{a:Goroutine}{wa:World}(h:OW P true Old (Yk P Old c z Fin (v::a7)) A0 a wa):∀(w:World) (gs:Array Goroutine) (sl:Option (Nat×Nat)) (t:Trace) (q:Nat→Nat),Rel Old A0 wa w→Rel Old Zp w0 w→Env P Old c k A0 AK gs w t q→
  gs[0]? =some a→gs[k]? =some (parked g2 #[scase c v z'] .send)→(∀w1,Rel Old AK w w1→Snd P Old c a7 AK (Conc.served g2 undef) w1)→zX P (End Old Fin w0) gs w sl t:=by
 have nr:¬(parked g2 #[scase c v z'] .send).status= .running:=fun e=>by cases e
 have cb:kA c (parked g2 #[scase c v z'] .send):= .inr (.inr ⟨_,_,_,_,rfl⟩);generalize b6:v::a7 =vs at h;induction h using OW.ind with
 | @stop A0 a wa b5=>
  subst b6;suffices H:∀(M:Nat) (w:World) (gs:Array Goroutine) (sl:Option (Nat×Nat)) (t:Trace) (q:Nat→Nat),sumTo gs.size q<M→Rel Old A0 wa w→Rel Old Zp w0 w→Env P Old c k A0 AK gs w t q→gs[0]? =some a→gs[k]? =some (parked g2 #[scase c v z'] .send)→(∀w1,Rel Old AK w w1→Snd P Old c a7 AK (Conc.served g2 undef) w1)→zX P (End Old Fin w0) gs w sl t from
   fun w gs sl t q hr a3 E h0 hk hS=>H _ w gs sl t q (Nat.lt_succ_self _) hr a3 E h0 hk hS
  intro M;induction M with
  |zero=>exact fun w gs sl t q hM=>absurd hM (Nat.not_lt_zero _)
  |succ M ih=>
   intro w gs sl t q hM hr a3 E h0 hk hS;have b4:a.status= .running:=(b5 w hr).run;obtain⟨d,a5,a2⟩:=E.turn (sl:=sl) h0 hk (.inl (.inl b4)) cb (.inl b4);have a6:=hr.trans (Rel.at Old A0 w d);have a1:=a3.trans (Rel.at Old Zp w d);rcases a2 with⟨_,a0⟩|⟨h,_⟩|⟨gs',ops,q',a0,E',b1,b2,d4⟩
   ·obtain⟨⟨_,es,b8,b9⟩,b3⟩:=b5 _ a6
    obtain⟨s,r,tm,hc⟩:=(E.at d).ch;have hp:partners (gs.setIfInBounds 0 ph) c true=[(k,0)]:=kH E.k0 hk (by rw[offersAt_parked_send,if_pos rfl]) (fun m o d5 d6 ho=>E.free m o d5 d6 ho);have a4:=crowd_recv_meets (P:=P) (sl:=a5) h0 b8 hc E.k0 hk hp;refine zX.step (a0.trans a4) ?_;rw[←Array.append_assoc];have E1:=(E.at d).step0 (gs' :=gs) (fn:=a.frame.fn) (pos:=a.frame.place) (yA.look (w.at d) b9) rfl (fun _ _=>rfl);have d3:=E.ks;have d7:0<gs.size:=(Array.getElem?_eq_some_iff.1 h0).1;have E2:=E1.comm (gs' :=(gs.setIfInBounds k (g2.finishComm P #[scase c v z'] .send 0 undef false)).setIfInBounds 0 ((core a).finishComm P #[rcase c z] (.recv true) 0 v true)) (oD (c:=c) (i:=k) (j:=0) (f1:=g2.frame.fn) (f2:=(core a).frame.fn) (p1:=g2.frame.place) (p2:=(core a).frame.place) (s:=s) (r:=r) (cap:=0)) (by simp) (fun j c8 c9=>by rw[Array.getElem?_setIfInBounds_ne (fun e=>c8 e.symm),Array.getElem?_setIfInBounds_ne (fun e=>c9 e.symm)]) (s+1) (r+1) tm;refine a8 A0 AK _ _ a5 _ q ((core a).finishComm P #[rcase c z] (.recv true) 0 v true) (g2.finishComm P #[scase c v z'] .send 0 undef false) (a1.trans (Rel.chan (fun e=>e) E.nc.2.2 ..)) E2 ?_ ?_ ?_ ?_
    ·rw[Array.getElem?_setIfInBounds_self_of_lt (by simpa using d7)]
    ·rw[Array.getElem?_setIfInBounds_ne (fun e=>E.k0 e.symm),Array.getElem?_setIfInBounds_self_of_lt d3]
    ·rw[finishComm_recv]
     exact(xl ..).1 (b3 _ (Rel.chan E.nc.1 E.nc.2.2 ..))
    ·rw[finishComm_send]
     exact(vS ..).1 (hS _ ((Rel.at Old AK w d).trans (Rel.chan E.nc.2.1 E.nc.2.2 ..)))
   ·exact absurd h nr
   ·exact zX.step a0 (ih _ gs' a5 _ q' (by omega) a6 a1 E' b1 b2 (fun w1 h1=>hS w1 ((Rel.at Old AK w d).trans h1)))
 | @step A0 a wa f u e B hs h1 _ d9=>
  subst b6;suffices H:∀(M:Nat) (w:World) (gs:Array Goroutine) (sl:Option (Nat×Nat)) (t:Trace) (q:Nat→Nat),sumTo gs.size q<M→Rel Old A0 wa w→Rel Old Zp w0 w→Env P Old c k A0 AK gs w t q→gs[0]? =some a→gs[k]? =some (parked g2 #[scase c v z'] .send)→(∀w1,Rel Old AK w w1→Snd P Old c a7 AK (Conc.served g2 undef) w1)→zX P (End Old Fin w0) gs w sl t from
   fun w gs sl t q hr a3 E h0 hk hS=>H _ w gs sl t q (Nat.lt_succ_self _) hr a3 E h0 hk hS
  intro M;induction M with
  |zero=>exact fun w gs sl t q hM=>absurd hM (Nat.not_lt_zero _)
  |succ M ih=>
   intro w gs sl t q hM hr a3 E h0 hk hS;obtain⟨d,a5,a2⟩:=E.turn (sl:=sl) h0 hk (.inl (.inl hs)) cb (.inl hs);have a6:=hr.trans (Rel.at Old A0 w d);have a1:=a3.trans (Rel.at Old Zp w d);rcases a2 with⟨_,a0⟩|⟨h,_⟩|⟨gs',ops,q',a0,E',b1,b2,d4⟩
   ·obtain⟨c7,hG⟩:=h1 _ a6
    have b7:∃s r tm,(u (w.at d)).heap[c]? =some (.chan 0 #[] false s r tm):=((E.at d).step0 (gs' :=gs) (fn:=a.frame.fn) (pos:=a.frame.place) hG rfl (fun _ _=>rfl)).ch
    obtain⟨gs',a4,d8,c6,a9⟩:=qk (P:=P) (sl:=a5) (c:=c) h0 c7 (fun j o _ hj=>E.calm h0 hk (.inl (.inl hs)) cb j o hj) b7;refine zX.step (a0.trans a4) (d9 _ a6 _ gs' a5 _ q (Rel.refl _ _ _) (a1.trans (hG.none E.apart.o0 E.sO)) ((E.at d).step0 hG d8 a9) c6 (by rw[a9 k E.k0];exact hk) (fun w1 h1=>hS w1 (((Rel.at Old AK w d).trans (hG.rel (fun b hb ha=>E.apart.ok b ha hb) E.apart.o0 E.sK E.sO)).trans h1)))
   ·exact absurd h nr
   ·exact zX.step a0 (ih _ gs' a5 _ q' (by omega) a6 a1 E' b1 b2 (fun w1 h1=>hS w1 ((Rel.at Old AK w d).trans h1)))
theorem cI {vs:List Value}(a0:∀v a6,vs=v::a6 →GJ P Old c k z Fin w0 a6){a b:Goroutine}(a5:∀w1,Rel Old A0 w w1→Yk P Old c z Fin vs A0 a w1)(hK:OW P false Old (qx P Old c vs) AK b w)(b1:Rel Old Zp w0 w)(E:Env P Old c k A0 AK gs w t q)(h0:gs[0]? =some a)(hk:gs[k]? =some b):
  ∃a2 w1 ops,runT P (crowd gs w sl) 0=(.next (crowd a2 w1 sl),ops)∧zX P (End Old Fin w0) a2 w1 sl (t++ops):=by
 have a7:=hK.running (fun _ _ _ h=>h.run);obtain⟨_,es,a8,a9⟩:=(a5 w (Rel.refl _ _ _)).at;obtain⟨s,r,tm,hc⟩:=E.ch;have hp:partners (gs.setIfInBounds 0 ph) c true=[]:=qS fun j o hj ho=>by
  by_cases a4:j=k
  ·subst a4;rw[hk]at ho;obtain rfl:=Option.some.inj ho;rw[a7];intro e;cases e
  ·exact E.free j o hj a4 ho
 have a1:=crowd_waits (P:=P) (sl:=sl) h0 a8 (fun cc a3=>by
  simp only[List.mem_toArray,List.mem_cons,List.not_mem_nil,or_false]at a3;subst a3;exact ways_recv_none hc hp)
 refine⟨_,_,_,a1,FP a0 hK w _ sl _ q (Rel.refl _ _ _) b1 (E.step0 (yA.look w a9) (by simp) (fun j hj=>by rw[Array.getElem?_setIfInBounds_ne (fun e=>hj e.symm)])) (by rw[Array.getElem?_setIfInBounds_self_of_lt (Array.getElem?_eq_some_iff.1 h0).1]) a5 (by rw[Array.getElem?_setIfInBounds_ne (fun e=>E.k0 e.symm)];exact hk)⟩
theorem cH {vs:List Value}(a0:∀v a1,vs=v::a1 →GJ P Old c k z Fin w0 a1){a b:Goroutine}(a2:OW P true Old (Yk P Old c z Fin vs) A0 a w)(b1:qx P Old c vs AK b w)(a9:Rel Old Zp w0 w)(E:Env P Old c k A0 AK gs w t q)(h0:gs[0]? =some a)(hk:gs[k]? =some b):
  ∃a5 w1 ops,runT P (crowd gs w sl) k=(.next (crowd a5 w1 sl),ops)∧zX P (End Old Fin w0) a5 w1 sl (t++ops):=by
 have a6:=a2.running (fun _ _ _ h=>h.run)
 cases vs with
 |nil=>exact oq E h0 hk b1 a9 (.inl ⟨a6,a2⟩)
 |cons v a1 =>
  obtain⟨_,g2,z',es,b2,b3,a3⟩:=b1;obtain⟨s,r,tm,hc⟩:=E.ch;have hp:partners (gs.setIfInBounds k ph) c false=[]:=qS fun j o hj ho=>by
   by_cases a8:j=0
   ·subst a8;rw[h0]at ho;obtain rfl:=Option.some.inj ho;rw[a6];intro e;cases e
   ·exact E.free j o a8 hj ho
  have a4:=crowd_waits (P:=P) (sl:=sl) hk (by rw[JG E.k0];exact b2) (fun cc a7=>by
   simp only[List.mem_toArray,List.mem_cons,List.not_mem_nil,or_false]at a7;subst a7;exact ways_send_none hc (Nat.zero_le _) hp)
  refine⟨_,_,_,a4,FN (a0 v a1 rfl) a2 w _ sl _ q (Rel.refl _ _ _) a9 (E.stepK (yA.look w b3) (by simp) (fun j hj=>by rw[Array.getElem?_setIfInBounds_ne (fun e=>hj e.symm)])) (by rw[Array.getElem?_setIfInBounds_ne E.k0];exact h0) (by rw[Array.getElem?_setIfInBounds_self_of_lt E.ks]) a3⟩
theorem JE {vs:List Value}(a9:∀v e3,vs=v::e3 →GJ P Old c k z Fin w0 e3){a:Goroutine}{wa:World}(h:OW P true Old (Yk P Old c z Fin vs) A0 a wa):∀{AK:Blk} {b:Goroutine} {wb:World} (_:OW P false Old (qx P Old c vs) AK b wb) (w:World) (gs:Array Goroutine) (sl:Option (Nat×Nat)) (t:Trace) (q:Nat→Nat),
  Rel Old A0 wa w→Rel Old AK wb w→Rel Old Zp w0 w→Env P Old c k A0 AK gs w t q→gs[0]? =some a→gs[k]? =some b→zX P (End Old Fin w0) gs w sl t:=by
 induction h using OW.ind with
 | @stop A0 a wa c6=>
  intro AK b wb hK;induction hK using OW.ind with
  | @stop AK b wb a8=>
   suffices H:∀(M:Nat) (w:World) (gs:Array Goroutine) (sl:Option (Nat×Nat)) (t:Trace) (q:Nat→Nat),sumTo gs.size q<M→Rel Old A0 wa w→Rel Old AK wb w→Rel Old Zp w0 w→Env P Old c k A0 AK gs w t q→gs[0]? =some a→gs[k]? =some b→zX P (End Old Fin w0) gs w sl t from
    fun w gs sl t q h1 h2 h3 h4 h5 h6=>H _ w gs sl t q (Nat.lt_succ_self _) h1 h2 h3 h4 h5 h6
   intro M;induction M with
   |zero=>exact fun w gs sl t q hM=>absurd hM (Nat.not_lt_zero _)
   |succ M ih=>
    intro w gs sl t q hM b1 b2 b6 E h0 hk;have b9:a.status= .running:=(c6 w b1).run;have c7:b.status= .running:=(a8 w b2).run;obtain⟨d,a7,a6⟩:=E.turn (sl:=sl) h0 hk (.inl (.inl b9)) (.inl (.inl c7)) (.inl b9);have a1:=b1.trans (Rel.at Old A0 w d);have a2:=b2.trans (Rel.at Old AK w d);have a3:=b6.trans (Rel.at Old Zp w d);rcases a6 with⟨_,a0⟩|⟨_,a0⟩|⟨gs',ops,q',a0,E',b3,b5,d7⟩
    ·obtain⟨c9,w1,ops,a4,b7⟩:=cI (sl:=a7) a9 (fun w1 h1=>c6 w1 (a1.trans h1)) (OW.stop fun w1 h1=>a8 w1 (a2.trans h1)) a3 (E.at d) h0 hk
     exact zX.step (a0.trans a4) b7
    ·obtain⟨c9,w1,ops,a4,b7⟩:=cH (sl:=a7) a9 (OW.stop fun w1 h1=>c6 w1 (a1.trans h1)) (a8 _ a2) a3 (E.at d) h0 hk
     exact zX.step (a0.trans a4) b7
    ·exact zX.step a0 (ih _ gs' a7 _ q' (by omega) a1 a2 a3 E' b3 b5)
  | @step AK b wb f v e B hs h1 h2 d9=>
   suffices H:∀(M:Nat) (w:World) (gs:Array Goroutine) (sl:Option (Nat×Nat)) (t:Trace) (q:Nat→Nat),sumTo gs.size q<M→Rel Old A0 wa w→Rel Old AK wb w→Rel Old Zp w0 w→Env P Old c k A0 AK gs w t q→gs[0]? =some a→gs[k]? =some b→zX P (End Old Fin w0) gs w sl t from
    fun w gs sl t q h1 h2 h3 h4 h5 h6=>H _ w gs sl t q (Nat.lt_succ_self _) h1 h2 h3 h4 h5 h6
   intro M;induction M with
   |zero=>exact fun w gs sl t q hM=>absurd hM (Nat.not_lt_zero _)
   |succ M ih=>
    intro w gs sl t q hM b1 b2 b6 E h0 hk;have b9:a.status= .running:=(c6 w b1).run;obtain⟨d,a7,a6⟩:=E.turn (sl:=sl) h0 hk (.inl (.inl b9)) (.inl (.inl hs)) (.inl b9);have a1:=b1.trans (Rel.at Old A0 w d);have a2:=b2.trans (Rel.at Old AK w d);have a3:=b6.trans (Rel.at Old Zp w d);rcases a6 with⟨_,a0⟩|⟨_,a0⟩|⟨gs',ops,q',a0,E',b3,b5,d7⟩
    ·obtain⟨c9,w1,ops,a4,b7⟩:=cI (sl:=a7) a9 (fun w1 h1=>c6 w1 (a1.trans h1)) ((OW.step f v e B hs h1 h2).rely a2) a3 (E.at d) h0 hk
     exact zX.step (a0.trans a4) b7
    ·obtain⟨b4,hG⟩:=h1 _ a2
     have d4:∃s r tm,(v (w.at d)).heap[c]? =some (.chan 0 #[] false s r tm):=((E.at d).stepK (gs' :=gs) (fn:=b.frame.fn) (pos:=b.frame.place) hG rfl (fun _ _=>rfl)).ch
     obtain⟨gs',a4,b8,d6,a5⟩:=qk (P:=P) (sl:=a7) (c:=c) hk (by rw[JG E.k0];exact b4) (fun j o _ hj=>E.calm h0 hk (.inl (.inl b9)) (.inl (.inl hs)) j o hj) d4;exact zX.step (a0.trans a4) (d9 _ a2 _ gs' a7 _ q (a1.trans (hG.rel E.apart.ok E.apart.oK E.s0 E.sO)) (Rel.refl _ _ _) (a3.trans (hG.none E.apart.oK E.sO)) ((E.at d).stepK hG b8 a5) (by rw[a5 0 (fun e=>E.k0 e.symm)];exact h0) d6)
    ·exact zX.step a0 (ih _ gs' a7 _ q' (by omega) a1 a2 a3 E' b3 b5)
 | @step A0 a wa f u e B hs h1 h2 e2=>
  intro AK b wb hK;induction hK using OW.ind with
  | @stop AK b wb a8=>
   suffices H:∀(M:Nat) (w:World) (gs:Array Goroutine) (sl:Option (Nat×Nat)) (t:Trace) (q:Nat→Nat),sumTo gs.size q<M→Rel Old A0 wa w→Rel Old AK wb w→Rel Old Zp w0 w→Env P Old c k A0 AK gs w t q→gs[0]? =some a→gs[k]? =some b→zX P (End Old Fin w0) gs w sl t from
    fun w gs sl t q h1 h2 h3 h4 h5 h6=>H _ w gs sl t q (Nat.lt_succ_self _) h1 h2 h3 h4 h5 h6
   intro M;induction M with
   |zero=>exact fun w gs sl t q hM=>absurd hM (Nat.not_lt_zero _)
   |succ M ih=>
    intro w gs sl t q hM b1 b2 b6 E h0 hk;have c7:b.status= .running:=(a8 w b2).run;obtain⟨d,a7,a6⟩:=E.turn (sl:=sl) h0 hk (.inl (.inl hs)) (.inl (.inl c7)) (.inl hs);have a1:=b1.trans (Rel.at Old A0 w d);have a2:=b2.trans (Rel.at Old AK w d);have a3:=b6.trans (Rel.at Old Zp w d);rcases a6 with⟨_,a0⟩|⟨_,a0⟩|⟨gs',ops,q',a0,E',b3,b5,d7⟩
    ·obtain⟨b4,hG⟩:=h1 _ a1
     have d3:∃s r tm,(u (w.at d)).heap[c]? =some (.chan 0 #[] false s r tm):=((E.at d).step0 (gs' :=gs) (fn:=a.frame.fn) (pos:=a.frame.place) hG rfl (fun _ _=>rfl)).ch
     obtain⟨gs',a4,b8,d5,a5⟩:=qk (P:=P) (sl:=a7) (c:=c) h0 b4 (fun j o _ hj=>E.calm h0 hk (.inl (.inl hs)) (.inl (.inl c7)) j o hj) d3;have d8:=hG.rel (fun b hb ha=>E.apart.ok b ha hb) E.apart.o0 E.sK E.sO;exact zX.step (a0.trans a4) (e2 _ a1 (OW.stop a8) _ gs' a7 _ q (Rel.refl _ _ _) (a2.trans d8) (a3.trans (hG.none E.apart.o0 E.sO)) ((E.at d).step0 hG b8 a5) d5 (by rw[a5 k E.k0];exact hk))
    ·obtain⟨c9,w1,ops,a4,b7⟩:=cH (sl:=a7) a9 ((OW.step f u e B hs h1 h2).rely a1) (a8 _ a2) a3 (E.at d) h0 hk
     exact zX.step (a0.trans a4) b7
    ·exact zX.step a0 (ih _ gs' a7 _ q' (by omega) a1 a2 a3 E' b3 b5)
  | @step AK b wb f' v e' B' c8 e1 e6 d9=>
   suffices H:∀(M:Nat) (w:World) (gs:Array Goroutine) (sl:Option (Nat×Nat)) (t:Trace) (q:Nat→Nat),sumTo gs.size q<M→Rel Old A0 wa w→Rel Old AK wb w→Rel Old Zp w0 w→Env P Old c k A0 AK gs w t q→gs[0]? =some a→gs[k]? =some b→zX P (End Old Fin w0) gs w sl t from
    fun w gs sl t q h1 h2 h3 h4 h5 h6=>H _ w gs sl t q (Nat.lt_succ_self _) h1 h2 h3 h4 h5 h6
   intro M;induction M with
   |zero=>exact fun w gs sl t q hM=>absurd hM (Nat.not_lt_zero _)
   |succ M ih=>
    intro w gs sl t q hM b1 b2 b6 E h0 hk;obtain⟨d,a7,a6⟩:=E.turn (sl:=sl) h0 hk (.inl (.inl hs)) (.inl (.inl c8)) (.inl hs);have a1:=b1.trans (Rel.at Old A0 w d);have a2:=b2.trans (Rel.at Old AK w d);have a3:=b6.trans (Rel.at Old Zp w d);rcases a6 with⟨_,a0⟩|⟨_,a0⟩|⟨gs',ops,q',a0,E',b3,b5,d7⟩
    ·obtain⟨b4,hG⟩:=h1 _ a1
     have d3:∃s r tm,(u (w.at d)).heap[c]? =some (.chan 0 #[] false s r tm):=((E.at d).step0 (gs' :=gs) (fn:=a.frame.fn) (pos:=a.frame.place) hG rfl (fun _ _=>rfl)).ch
     obtain⟨gs',a4,b8,d5,a5⟩:=qk (P:=P) (sl:=a7) (c:=c) h0 b4 (fun j o _ hj=>E.calm h0 hk (.inl (.inl hs)) (.inl (.inl c8)) j o hj) d3;have d8:=hG.rel (fun b hb ha=>E.apart.ok b ha hb) E.apart.o0 E.sK E.sO;exact zX.step (a0.trans a4) (e2 _ a1 (OW.step f' v e' B' c8 e1 e6) _ gs' a7 _ q (Rel.refl _ _ _) (a2.trans d8) (a3.trans (hG.none E.apart.o0 E.sO)) ((E.at d).step0 hG b8 a5) d5 (by rw[a5 k E.k0];exact hk))
    ·obtain⟨b4,hG⟩:=e1 _ a2
     have d4:∃s r tm,(v (w.at d)).heap[c]? =some (.chan 0 #[] false s r tm):=((E.at d).stepK (gs' :=gs) (fn:=b.frame.fn) (pos:=b.frame.place) hG rfl (fun _ _=>rfl)).ch
     obtain⟨gs',a4,b8,d6,a5⟩:=qk (P:=P) (sl:=a7) (c:=c) hk (by rw[JG E.k0];exact b4) (fun j o _ hj=>E.calm h0 hk (.inl (.inl hs)) (.inl (.inl c8)) j o hj) d4;exact zX.step (a0.trans a4) (d9 _ a2 _ gs' a7 _ q (a1.trans (hG.rel E.apart.ok E.apart.oK E.s0 E.sO)) (Rel.refl _ _ _) (a3.trans (hG.none E.apart.oK E.sO)) ((E.at d).stepK hG b8 a5) (by rw[a5 0 (fun e=>E.k0 e.symm)];exact h0) d6)
    ·exact zX.step a0 (ih _ gs' a7 _ q' (by omega) a1 a2 a3 E' b3 b5)
theorem kB:∀(vs:List Value),GJ P Old c k z Fin w0 vs
 |[]=>fun _ _ _ _ _ _ _ _ _ a0 E h0 hk ha hb=>JE (fun _ _ e=>by cases e) ha hb _ _ _ _ _ (Rel.refl _ _ _) (Rel.refl _ _ _) a0 E h0 hk
 |_::vs=>fun _ _ _ _ _ _ _ _ _ a0 E h0 hk ha hb=>JE (fun _ _ e=>by cases e;exact kB vs) ha hb _ _ _ _ _ (Rel.refl _ _ _) (Rel.refl _ _ _) a0 E h0 hk
end
open Go.ConcN (sumTo upd sumTo_upd upd_ne upd_same)
def xP (w:World)(c:Nat):Blk:=fun b=>b<w.heap.size∧b≠c
section
variable {P:Program}{c:Nat}{z:Value}{Fin:Blk→Goroutine→World→Prop}{w:World}{vs:List Value}{g g' child:Goroutine}{Q:Goroutine→World→Prop}
theorem cV (hg:g.status= .running)(c7:∀d,stepG P true g (w.at d)= .spawn g' child (w.at d) #[])(hc:∃s r tm,w.heap[c]? =some (.chan 0 #[] false s r tm))
  (hR:Rcv P (xP w c) c z Fin vs Zp g' w)(hS:Snd P (xP w c) c vs Zp child w)(hQ:∀g2 w2,End (xP w c) Fin w g2 w2→Q g2 w2):To P Q g w:=by
 suffices H:∀(M:Nat) (gs:Array Goroutine) (d0:Nat) (sl:Option (Nat×Nat)) (t:Trace) (q:Nat→Nat),sumTo gs.size q<M→gs[0]? =some g→Leavers P t gs q→YX t→
   ∃(N:Nat) (gs' :Array Goroutine) (g' :Goroutine) (w' :World) (a2 :Option (Nat×Nat)) (t' :Trace) (q' :Nat→Nat),
    runNT P N (crowd gs (w.at d0) sl) t=(.next (crowd gs' w' a2),t')∧gs'[0]? =some g' ∧Q g' w' ∧Leavers P t' gs' q' ∧YX t' by
  intro gs sl t q h0 hL hP;exact H _ gs w.drawn sl t q (Nat.lt_succ_self _) h0 hL hP
 intro M;induction M with
 |zero=>
  intro gs d0 sl t q hM;exact absurd hM (Nat.not_lt_zero _)
 |succ M c8=>
  intro gs d0 sl t q hM h0 hL hP;have c6:∀x∈gs,awake x:=by
   intro x hx;obtain⟨i,hi,rfl⟩:=Array.mem_iff_getElem.1 hx;rcases Nat.eq_zero_or_pos i with rfl|a0
   ·have:gs[0]=g:=by simpa[Array.getElem?_eq_getElem hi]using h0
    rw[this];exact awake_of (.inl hg)
   ·exact awake_of ((hL.old i _ a0 (Array.getElem?_eq_getElem hi)).status.elim .inl fun x=> .inr (.inr x))
  obtain⟨i,b,d,a2,hi,hb,b5⟩:=crowd_pick (P:=P) (w:=w.at d0) (sl:=sl) c6 ⟨0,g,h0,hg⟩;rcases Nat.eq_zero_or_pos i with rfl|a0
  ·obtain rfl:b=g:=by rw[h0]at hi;exact(Option.some.inj hi).symm
   have b4:0<gs.size:=(Array.getElem?_eq_some_iff.1 h0).1;have a3:=runT_crowd_spawn (P:=P) (sl:=a2) (w:=(w.at d0).at d) h0 (show stepG P (0==0) b ((w.at d0).at d)=_ from c7 d);have he:(((MemOp.ofEvents 0 b.frame.fn b.frame.place #[]).push {g:=0,fn:=b.frame.fn,pos:=b.frame.place,act:= .go gs.size}).push {g:=gs.size,fn:=child.frame.fn,pos:=b.frame.place,act:= .start}:Array MemOp)= #[{g:=0,fn:=b.frame.fn,pos:=b.frame.place,act:= .go gs.size},{g:=gs.size,fn:=child.frame.fn,pos:=b.frame.place,act:= .start}]:=rfl;rw[he]at a3;have hu:∀op∈(#[{g:=0,fn:=b.frame.fn,pos:=b.frame.place,act:= .go gs.size},{g:=gs.size,fn:=child.frame.fn,pos:=b.frame.place,act:= .start}]:Array MemOp),∀x,op.act≠ .mark x:=by
    intro op b3 x hx;simp only[List.mem_toArray,List.mem_cons,List.not_mem_nil,or_false]at b3;rcases b3 with rfl|rfl<;>cases hx
   have a7:Mid (xP w c) Zp Zp gs.size (t++ #[{g:=0,fn:=b.frame.fn,pos:=b.frame.place,act:= .go gs.size},{g:=gs.size,fn:=child.frame.fn,pos:=b.frame.place,act:= .start}]):=Mid.fork (by omega) hP (hL.above _ (Nat.le_refl _)) _ _ _ _;obtain⟨s,r,tm,hc⟩:=hc;have c9:c<w.heap.size:=(Array.getElem?_eq_some_iff.1 hc).1;have E:Env P (xP w c) c gs.size Zp Zp ((gs.setIfInBounds 0 g').push child) ((w.at d0).at d) (t++ #[{g:=0,fn:=b.frame.fn,pos:=b.frame.place,act:= .go gs.size},{g:=gs.size,fn:=child.frame.fn,pos:=b.frame.place,act:= .start}]) q:=by
    refine⟨by omega,by simp,fun i x hi hk hx=> ?_,fun j hj=> ?_,⟨fun _ h=>h.elim,fun _ h=>h.elim,fun _ h=>h.elim⟩,fun _ h=>h.elim,fun _ h=>h.elim,fun b hb=>hb.1,⟨fun h=>h,fun h=>h,fun h=>h.2 rfl⟩,⟨s,r,tm,hc⟩,a7⟩
    ·have b2:i<((gs.setIfInBounds 0 g').push child).size:=(Array.getElem?_eq_some_iff.1 hx).1
     simp only[Array.size_push,Array.size_setIfInBounds]at b2;rw[Array.getElem?_push_lt (by simpa using(by omega:i<gs.size)),←Array.getElem?_eq_getElem,Array.getElem?_setIfInBounds_ne (by omega)]at hx;rw[Zy hu];exact hL.old i x hi hx
    ·simp only[Array.size_push,Array.size_setIfInBounds]at hj
     rw[Zy hu];exact hL.above j (by omega)
   have e0:((gs.setIfInBounds 0 g').push child)[0]? =some g' :=by
    rw[Array.getElem?_push_lt (by simpa using b4),←Array.getElem?_eq_getElem,Array.getElem?_setIfInBounds_self_of_lt b4]
   have ek:((gs.setIfInBounds 0 g').push child)[gs.size]? =some child:=by
    have:(gs.setIfInBounds 0 g').size=gs.size:=by simp
    rw[←this,Array.getElem?_push_size]
   have a9:∀A:Blk,Rel (xP w c) A w ((w.at d0).at d):=fun A=>(Rel.at _ A w d0).trans (Rel.at _ A _ d)
   obtain⟨N,gs',g2,w',a1,t',q',b1,a4,a8,a5,a6⟩:=kB (k:=gs.size) (w0:=w) vs Zp Zp _ _ a2 _ q g' child (a9 Zp) E e0 ek (((xl ..).1 hR).rely (a9 Zp)) (((vS ..).1 hS).rely (a9 Zp));refine⟨N+1,gs',g2,w',a1,t',q',?_,a4,hQ _ _ a8,a5,a6⟩;simp only[runNT,b5,a3];exact b1
  ·obtain⟨b6,ops,q1,a3,d3,b7,b8,b9,b2⟩:=kU (P:=P) (w:=w.at d) (sl:=a2) a0 hi hb h0 hg hL hP
   obtain⟨N,gs',g2,w',a1,t',q',b1,a4,a8,a5,a6⟩:=c8 b6 d a2 (t++ops) q1 (by omega) b7 b8 b9;refine⟨N+1,gs',g2,w',a1,t',q',?_,a4,a8,a5,a6⟩;simp only[runNT,b5];rw[show(w.at d0).at d=w.at d from rfl,a3];exact b1
end
def ToE (P:Program)(Q:Goroutine→World→Prop)(g:Goroutine)(w:World):Prop:=∀T d,To P Q g (re w T d)
def OkK (k:List Item)(cs:List Frame):Prop:=(∀x∈k,Xh x)∧∀f∈cs,zK f
section
variable {P:Program}{Q Q' :Goroutine→World→Prop}{g g' :Goroutine}{w:World}{b:Frame}{a:Act}{k:List Item}{cs:List Frame}{x:Item}
theorem OkK.cons (h:OkK k cs)(hx:Xh x):OkK (x::k) cs:=⟨fun y hy=>by
 rcases List.mem_cons.1 hy with rfl|hy
 ·exact hx
 ·exact h.1 y hy,h.2⟩
theorem OkK.fit (h:OkK k cs):Fit (G (b.at a k) cs):=⟨⟨h.1,h.2,fun d hd=>by cases hd⟩,rfl,rfl⟩
theorem OkK.fitR (h:OkK k cs):Fit (G {b.at a k with mode:= .returning} cs):=⟨⟨h.1,h.2,fun d hd=>by cases hd⟩,rfl,rfl⟩
theorem ToE.here (h:ToE P Q g w):To P Q g w:=h w.tape w.drawn
theorem ToE.rt (h:ToE P Q g w)(T:Nat→Question→Nat)(d:Nat):ToE P Q g (re w T d):=fun T' d' =>h T' d'
theorem ToE.trans (h:ToE P Q g w)(h' :∀g w,Q g w→ToE P Q' g w):ToE P Q' g w:=fun T d=>(h T d).trans fun g w hq=>(h' g w hq).here
theorem ToE.done (h:∀T d,Q g (Go.Proofs.YtolgebdmffcemaaGreatDoor.re w T d)):ToE P Q g w:=fun T d=>To.done (h T d)
theorem OZ (hP:zF P):∀(n:Nat) (g:Goroutine) (w:World) (gf:Goroutine) (wf:World),Fit g→gf.status= .running∧gf.dying=none→runN P n (solo g w)= .next (solo gf wf)→Fit gf
 |0,g,w,gf,wf,hf,_,h=>by
  simp only[runN]at h;have:solo g w=solo gf wf:=by injection h
  have e:g=gf:=by
   have:=congrArg (fun m:Machine=>m.gs[0]?) this;simpa[solo]using this
  exact e▸hf
 |n+1,g,w,gf,wf,hf,hg,h=>by
  obtain⟨g',w',ops,_,a0,_,hr⟩:=jl hP hf hg h;exact OZ hP n g' w' gf wf a0 hg hr
theorem Ym.fit (hP:zF P)(hf:Fit g)(h:Ym P Q g w):Ym P (fun g w=>Q g w∧Fit g) g w:=fun T d=>by
 obtain⟨n,gf,wf,hr,hq,hg⟩:=h T d;exact⟨n,gf,wf,hr,⟨hq,OZ hP n _ _ gf wf hf hg hr⟩,hg⟩
theorem ToE.lone (hP:zF P)(hQ:∀g w T d,Q g w→Q g (Go.Proofs.YtolgebdmffcemaaGreatDoor.re w T d))(hf:Fit g)(hR:Ym P Q g w):ToE P (fun g w=>Q g w∧Fit g) g w:=fun T d=>
 To.lone hP (fun g w T d h=>⟨hQ g w T d h.1,h.2⟩) hf (fun T' d' =>hR.fit hP hf T' d')
theorem ToE.ctl (hP:zF P)(hf:Fit g)(hg:g'.status= .running∧g'.dying=none)(h:∀w,step P (solo g w)= .next (solo g' w))(h' :ToE P Q g' w):ToE P Q g w:=
 (ToE.lone (Q:=fun g1 w1=>g1=g' ∧∃T d,w1=Go.Proofs.YtolgebdmffcemaaGreatDoor.re w T d) hP (fun _ _ T d ⟨e,_,_,e'⟩=>⟨e,T,d,by rw[e'];rfl⟩) hf fun T d=>⟨1,g',Go.Proofs.YtolgebdmffcemaaGreatDoor.re w T d,by simp only[runN,h],⟨rfl,T,d,rfl⟩,hg⟩).trans fun g1 w1 ⟨⟨e,T,d,e'⟩,_⟩=>by
  subst e e';exact h'.rt T d
def vH (P:Program)(Z:Goroutine→World→Prop)(b:Frame)(k:List Item)(cs:List Frame):Exit→Act→World→Prop
 | .normal,a,w=>ToE P Z (G (b.at a k) cs) w
 | .exit id,a,w=>∃k',exitTo id k=some k' ∧ToE P Z (G (b.at a k') cs) w
 | .ret,a,w=>∀todo,(∀x∈todo,Xh x)→ToE P Z (G {b.at a todo with mode:= .returning} cs) w
 |_,_,_=>False
def wpT (P:Program)(fn:FuncId)(c:Code)(Q:Exit→Act→World→Prop)(a:Act)(w:World):Prop:=
 ∀(b:Frame) (k:List Item) (cs:List Frame) (Z:Goroutine→World→Prop),b.fn=fn→OkK k cs→b.kind≠ .early→(∀e a' w',Q e a' w' →vH P Z b k cs e a' w')→ToE P Z (G (b.at a (.code c::k)) cs) w
def QH (P:Program)(fn:FuncId)(ops:Array Oper)(todo:List Nat)(Q:Exit→Act→World→Prop)(a:Act)(w:World):Prop:=
 ∀(b:Frame) (k:List Item) (cs:List Frame) (Z:Goroutine→World→Prop),b.fn=fn→OkK k cs→b.kind≠ .early→(∀e a' w',Q e a' w' →vH P Z b k cs e a' w')→ToE P Z (G (b.at a (.inRegion ops todo::k)) cs) w
def zO (P:Program)(f:FuncId)(args:Array Value)(w:World)(R:Value→World→Prop):Prop:=
 ∀(c:Frame) (cs:List Frame) (Z:Goroutine→World→Prop),zK c→(∀f∈cs,zK f)→(∀v w',R v w' →ToE P Z (G (c.finish v) cs) w')→ToE P Z (G (Frame.enter P f args .normal) (c::cs)) w
end
section
variable {P:Program}{fn:FuncId}{Q Q' :Exit→Act→World→Prop}{a:Act}{w:World}
theorem vH.push {Z:Goroutine→World→Prop}{b:Frame}{x:Item}{k:List Item}{cs:List Frame}{e:Exit}{a:Act}{w:World}(hx:x.plain=true)(he:e≠ .normal)(h:vH P Z b k cs e a w):vH P Z b (x::k) cs e a w:=by
 cases e with
 |normal=>exact absurd rfl he
 |exit id=>obtain⟨k',hk,hg⟩:=h;exact⟨k',by cases x<;>simp_all [exitTo,Item.plain],hg⟩
 |ret=>exact h
 |goto l=>exact h
 |panic ch=>exact h
 |outgrown=>exact h
theorem cU {c:Code}(h:wpT P fn c Q a w)(T:Nat→Question→Nat)(d:Nat):wpT P fn c Q a (re w T d):=fun b k cs Z hF hO hb hc=>(h b k cs Z hF hO hb hc).rt T d
theorem zFS {ops:Array Oper}{l:List Nat}(h:QH P fn ops l Q a w)(T:Nat→Question→Nat)(d:Nat):QH P fn ops l Q a (re w T d):=fun b k cs Z hF hO hb hc=>(h b k cs Z hF hO hb hc).rt T d
def CA (b:Frame)(k:List Item)(cs:List Frame)(g:Goroutine)(a:Act):Exit→Prop
 | .normal=>g=G (b.at a k) cs
 | .exit id=>∃k',exitTo id k=some k' ∧g=G (b.at a k') cs
 | .ret=>∃todo,g=G {b.at a todo with mode:= .returning} cs
 |_=>False
theorem uW (hP:zF P){c:Code}(hQ:∀e a w T d,Q e a w→Q e a (re w T d))(h:∀T d,c.wp P Q a (re w T d)):wpT P fn c Q a w:=by
 intro b k cs Z hF hO hb hc;refine(ToE.lone (Q:=fun g w' =>∃e a',Q e a' w' ∧CA b k cs g a' e) hP (fun g w T d ⟨e,a',q,s⟩=>⟨e,a',hQ _ _ _ T d q,s⟩) (hO.cons (by trivial)).fit fun T d=> ?_).trans fun g w' ⟨⟨e,a',q,s⟩,hf⟩=> ?_
 ·obtain⟨e,a',w',q,a0⟩:=h T d b k cs
  have hA:=hc e a' w' q
  cases e with
  |normal=>
   obtain⟨n,hn⟩:=a0;exact⟨n,_,w',hn,⟨.normal,a',q,rfl⟩,rfl,rfl⟩
  |exit id=>
   obtain⟨k',a1,_⟩:=hA;obtain⟨n,hn⟩:=a0 k' a1;exact⟨n,_,w',hn,⟨.exit id,a',q,k',a1,rfl⟩,rfl,rfl⟩
  |ret=>
   obtain⟨todo,n,hn⟩:=a0;exact⟨n,_,w',hn,⟨.ret,a',q,todo,rfl⟩,rfl,rfl⟩
  |goto l=>exact hA.elim
  |panic ch=>exact hA.elim
  |outgrown=>exact hA.elim
 ·have hA:=hc e a' w' q
  cases e with
  |normal=>subst s;exact hA
  |exit id=>
   obtain⟨k',a1,rfl⟩:=s;obtain⟨k2,a2,ht⟩:=hA;rw[a1]at a2;obtain rfl:=Option.some.inj a2;exact ht
  |ret=>
   obtain⟨todo,rfl⟩:=s;exact hA todo hf.ok.1
  |goto l=>exact hA.elim
  |panic ch=>exact hA.elim
  |outgrown=>exact hA.elim
theorem zx (hP:zF P){x y:Code}(h:wpT P fn x (Exit.then (wpT P fn y Q) Q) a w):wpT P fn (.seq x y) Q a w:=by
 intro b k cs Z hF hO hb hc;refine ToE.ctl hP (hO.cons (by trivial)).fit ⟨rfl,rfl⟩ (fun w=>step_seq) (h b (.code y::k) cs Z hF (hO.cons (by trivial)) hb fun e a' w' q=> ?_)
 cases e with
 |normal=>exact q b k cs Z hF hO hb hc
 |exit id=>exact(hc _ _ _ q).push rfl (by simp)
 |ret=>exact(hc _ _ _ q).push (x:= .code y) rfl (by simp)
 |goto l=>exact hc _ _ _ q
 |panic ch=>exact hc _ _ _ q
 |outgrown=>exact hc _ _ _ q
theorem yZ (hP:zF P){c:Operand}{x y:Code}{t:Bool}(hc:a.eval c= .bool t)(h:wpT P fn (if t then x else y) Q a w):wpT P fn (.cond c x y) Q a w:=
 fun b k cs Z hF hO hb hq=>ToE.ctl hP (hO.cons (by trivial)).fit ⟨rfl,rfl⟩ (fun w=>step_cond hc) (h b k cs Z hF hO hb hq)
theorem ZY (hP:zF P){id:Nat}{c:Code}(h:wpT P fn c (Exit.inBlock id Q) a w):wpT P fn (.block id c) Q a w:=by
 intro b k cs Z hF hO hb hc;refine ToE.ctl hP (hO.cons (by trivial)).fit ⟨rfl,rfl⟩ (fun w=>step_block) (h b (.inBlock id::k) cs Z hF (hO.cons (by trivial)) hb fun e a' w' q=> ?_)
 cases e with
 |normal=>exact ToE.ctl hP (hO.cons (by trivial)).fit ⟨rfl,rfl⟩ (fun w=>step_inBlock) (hc _ _ _ q)
 |exit a1 =>
  by_cases a0:a1 =id
  ·simp only[Exit.inBlock,a0,if_true]at q
   exact⟨k,by simp[exitTo,a0],hc _ _ _ q⟩
  ·simp only[Exit.inBlock,a0,if_false]at q
   obtain⟨k',a2,hg⟩:=hc _ _ _ q;have:(id==a1)=false:=by simp;exact fun h=>a0 h.symm
   exact⟨k',by simp[exitTo,this,a2],hg⟩
 |ret=>exact hc _ _ _ q
 |goto l=>exact hc _ _ _ q
 |panic ch=>exact hc _ _ _ q
 |outgrown=>exact hc _ _ _ q
theorem Kz (hP:zF P)(h:Q .normal a w):wpT P fn .skip Q a w:=fun b k cs Z hF hO hb hc=>ToE.ctl hP (hO.cons (by trivial)).fit ⟨rfl,rfl⟩ (fun w=>step_skip) (hc _ _ _ h)
theorem xX (hP:zF P)(h:Q .ret a w):wpT P fn .ret Q a w:=fun b k cs Z hF hO hb hc=>ToE.ctl hP (hO.cons (by trivial)).fit ⟨rfl,rfl⟩ (fun w=>step_ret) (hc _ _ _ h _ (hO.cons (by trivial)).1)
theorem KA (hP:zF P){c:Code}(I:Act→World→Prop)(μ:Act→World→Nat)(h₀:I a w)(round:∀a w,I a w→wpT P fn c (Exit.then (fun a' w' =>I a' w' ∧μ a' w' <μ a w) Q) a w):wpT P fn (.loop c) Q a w:=by
 intro b k cs Z hF hO hb hc;have key:∀n a w,μ a w=n→I a w→ToE P Z (G (b.at a (.code c:: .inLoop c::k)) cs) w:=by
  intro n;induction n using Nat.strongRecOn with
  |_ n ih=>
   intro a w hn hI;refine round a w hI b (.inLoop c::k) cs Z hF (hO.cons (by trivial)) hb fun e a' w' q=> ?_
   cases e with
   |normal=>exact ToE.ctl hP (hO.cons (by trivial)).fit ⟨rfl,rfl⟩ (fun w=>step_inLoop) (ih (μ a' w') (hn▸q.2) a' w' rfl q.1)
   |exit id=>exact(hc _ _ _ q).push rfl (by simp)
   |ret=>exact(hc _ _ _ q).push (x:= .inLoop c) rfl (by simp)
   |goto l=>exact hc _ _ _ q
   |panic ch=>exact hc _ _ _ q
   |outgrown=>exact hc _ _ _ q
 exact ToE.ctl hP (hO.cons (by trivial)).fit ⟨rfl,rfl⟩ (fun w=>step_loop) (key _ a w rfl h₀)
theorem XW (hP:zF P){id:Nat}{ops:Array Oper}(h:QH P fn ops (List.range ops.size) Q a w):wpT P fn (.region id ops false) Q a w:=
 fun b k cs Z hF hO hb hc=>ToE.ctl hP (hO.cons (by trivial)).fit ⟨rfl,rfl⟩ (fun w=>step_region) (h b k cs Z hF hO hb hc)
theorem Xr (hP:zF P){ops:Array Oper}(h:Q .normal a w):QH P fn ops [] Q a w:=
 fun b k cs Z hF hO hb hc=>ToE.ctl hP (hO.cons (by trivial)).fit ⟨rfl,rfl⟩ (fun w=>step_region_end) (hc _ _ _ h)
theorem FJ {ops:Array Oper}{M:Act→World→Prop}(l2:List Nat)(l1:List Nat):∀(a:Act) (w:World),wpOps P ops (fun e a w=>e= .normal∧M a w) l1 a w→∀(b:Frame) (k:List Item) (cs:List Frame),
  ∃a' w',M a' w' ∧Steps P (lone (b.at a (.inRegion ops (l1++l2)::k)) cs w) (lone (b.at a' (.inRegion ops l2::k)) cs w'):=by
 induction l1 with
 |nil=>exact fun a w h b k cs=>⟨a,w,h.2,0,rfl⟩
 |cons i rest ih=>
  intro a w h b k cs;simp only[wpOps]at h
  cases ho:ops[i]? with
  |none=>
   simp only[ho]at h;obtain⟨a',w',hq,hs⟩:=ih a w h b k cs;have hk:=step_op_skip (P:=P) (b:=b) (a:=a) (k:=k) (cs:=cs) (w:=w) (ops:=ops) (i:=i) (rest:=rest++l2) (by simp[ho]);simp only[ho,Option.bind_none,Act.put]at hk;exact⟨a',w',hq,.head hk hs⟩
  |some o=>
   simp only[ho]at h;by_cases hw:Region.wanted o (yielded ops a.tmps)=true
   ·simp only[hw,if_true]at h
    rcases h with h|⟨_,_,_,hx,_⟩
    case inr=>cases hx
    have hg:=stepG_op (P:=P) (b:=b) (k:=k) (cs:=cs) (w:=w) (rest:=rest++l2) ho hw;have a2:∀v,(b.at a (.inRegion ops (i::(rest++l2))::k)).finish v=b.at (a.put o.dst v) (.inRegion ops (rest++l2)::k):=by
     intro v;rw[Frame.finish_at,ho];rfl
    unfold Oper.wp Oper.upon at h;split at h
    ·rename_i v w' hr
     obtain⟨a',a4,hq,hs⟩:=ih _ _ h b k cs;refine⟨a',a4,hq,.head (step_lone_go ?_) hs⟩;rw[List.cons_append,hg,←a2];simp[stepG.apply,hr]
    ·rename_i w' hr
     obtain⟨a',a4,hq,hs⟩:=ih _ _ h b k cs;refine⟨a',a4,hq,.head (step_lone_go ?_) hs⟩;rw[List.cons_append,hg,←a2];simp[stepG.apply,hr]
    ·rename_i d w' hr
     obtain⟨a',a4,hq,hs⟩:=ih _ _ h b k cs;refine⟨a',a4,hq,.head (step_lone_go ?_) hs⟩;have:({b.at a (.inRegion ops (i::(rest++l2))::k)with defers:=d::a.defers}:Frame).finish undef=b.at ({a with defers:=d::a.defers}.put o.dst undef) (.inRegion ops (rest++l2)::k):=by
      have:=Frame.finish_at b {a with defers:=d::a.defers} ops i (rest++l2) k undef;rw[ho]at this;exact this
     rw[List.cons_append,hg];simp only[stepG.apply,Sem.runT_eq,hr,GStep.bare_after];exact congrArg (fun fr=>GStep.go {frame:=fr,callers:=cs,status:= .running,dying:=none} w') this
    ·rename_i f args w' hr
     obtain⟨e,a4,fr,hR,a1,_,a3⟩:=h (b.at a (.inRegion ops (i::(rest++l2))::k)::cs);have a0:step P (lone (b.at a (.inRegion ops (i::(rest++l2))::k)) cs w)= .next (lone (Frame.enter P f args .normal) (b.at a (.inRegion ops (i::(rest++l2))::k)::cs) w'):=
      step_lone_go (by rw[hg];simp[stepG.apply,hr,Frame.at])
     cases e with
     |returned v=>
      obtain⟨a',w₃,hq,hs⟩:=ih _ _ hR b k cs;refine⟨a',w₃,hq,.head a0 (Steps.trans a1 (.head ?_ hs))⟩;rw[←a2];exact step_leave_returned a3
     |panicked a5=>cases hR.1
     |outgrown=>
      obtain⟨_,_,hx,_⟩:=hR
      cases hx
    ·rename_i row args w' hr
     obtain⟨v,a4,hR,a1⟩:=h (b.at a (.inRegion ops (i::(rest++l2))::k)) cs;have a0:step P (lone (b.at a (.inRegion ops (i::(rest++l2))::k)) cs w)= .next (lone (Frame.ofRow P row args .normal) (b.at a (.inRegion ops (i::(rest++l2))::k)::cs) w'):=
      step_lone_go (by rw[hg];simp[stepG.apply,hr,Frame.at])
     obtain⟨a',w₃,hq,hs⟩:=ih _ _ hR b k cs;refine⟨a',w₃,hq,.head a0 (Steps.trans ?_ hs)⟩;rw[←a2];exact a1
    ·cases h.1
    ·exact h.elim
   ·simp only[hw,if_false,Bool.false_eq_true]at h
    obtain⟨a',w',hq,hs⟩:=ih _ _ h b k cs;have hk:=step_op_skip (P:=P) (b:=b) (a:=a) (k:=k) (cs:=cs) (w:=w) (ops:=ops) (i:=i) (rest:=rest++l2) (by simp[ho];simpa using hw);simp only[ho,Option.bind_some]at hk;exact⟨a',w',hq,.head hk hs⟩
theorem qQ (hP:zF P){ops:Array Oper}(M:Act→World→Prop)(l1 l2:List Nat)(hM:∀a w T d,M a w→M a (re w T d))(h:∀T d,wpOps P ops (fun e a w=>e= .normal∧M a w) l1 a (re w T d))(hn:∀a' w',M a' w' →QH P fn ops l2 Q a' w'):QH P fn ops (l1++l2) Q a w:=by
 intro b k cs Z hF hO hb hc;refine(ToE.lone (Q:=fun g w' =>∃a',M a' w' ∧g=G (b.at a' (.inRegion ops l2::k)) cs) hP (fun g w T d ⟨a',q,s⟩=>⟨a',hM _ _ T d q,s⟩) (hO.cons (by trivial)).fit fun T d=> ?_).trans fun g w' ⟨⟨a',q,s⟩,hf⟩=> ?_
 ·obtain⟨a',w',q,n,hn⟩:=FJ l2 l1 a _ (h T d) b k cs
  exact⟨n,_,w',hn,⟨a',q,rfl⟩,rfl,rfl⟩
 ·subst s
  exact hn a' w' q b k cs Z hF hO hb hc
theorem VQ (hP:zF P){ops:Array Oper}{i:Nat}{rest:List Nat}{o:Oper}{f:FuncId}{args:Array Value}{R:Value→World→Prop}(ho:ops[i]? =some o)(hw:Region.wanted o (yielded ops a.tmps)=true)(hr:∀W,(execOp a.eval o).run P W= .ok (.enter f args) W)(hc:zO P f args w R)(hn:∀v w',R v w' →QH P fn ops rest Q (a.put o.dst v) w'):QH P fn ops (i::rest) Q a w:=by
 intro b k cs Z hF hO hb hq;have a1:∀v,(b.at a (.inRegion ops (i::rest)::k)).finish v=b.at (a.put o.dst v) (.inRegion ops rest::k):=by
  intro v;rw[Frame.finish_at,ho];rfl
 have a0:OkK (.inRegion ops (i::rest)::k) cs:=hO.cons (by trivial);refine ToE.ctl (g' :=G (Frame.enter P f args .normal) (b.at a (.inRegion ops (i::rest)::k)::cs)) hP a0.fit ⟨rfl,rfl⟩ (fun W=> ?_) (hc _ _ Z a0.1 a0.2 fun v w' hv=> ?_)
 ·exact step_lone_go (by rw[stepG_op ho hw];simp[stepG.apply,hr,Frame.at])
 ·rw[a1]
  exact hn v w' hv b k cs Z hF hO hb hq
theorem zO.mono {f:FuncId}{args:Array Value}{R R' :Value→World→Prop}(h:zO P f args w R)(hr:∀v w',R v w' →R' v w'):zO P f args w R' :=fun c cs Z hc a0 hn=>h c cs Z hc a0 fun v w' hv=>hn v w' (hr _ _ hv)
theorem callsT_lone (hP:zF P){f:FuncId}{args:Array Value}{R:Value→World→Prop}(hR:∀v w T d,R v w→R v (re w T d))(h:∀T d,Calls P f args (re w T d) fun e w' =>∃v,e= .returned v∧R v w'):zO P f args w R:=by
 intro c cs Z hc a2 hn;have a0 :∀f∈c::cs,zK f:=fun f hf=>by
  rcases List.mem_cons.1 hf with rfl|hf
  ·exact hc
  ·exact a2 f hf
 refine(ToE.lone (Q:=fun g w' =>∃v,R v w' ∧g=G (c.finish v) cs) hP (fun g w T d ⟨v,q,s⟩=>⟨v,hR _ _ T d q,s⟩) ⟨⟨yf f args .normal,a0,fun d hd=>by cases hd⟩,rfl,rfl⟩ fun T d=> ?_).trans fun g w' ⟨⟨v,q,s⟩,_⟩=> ?_
 ·obtain⟨e,w',fr,⟨v,rfl,hv⟩,a1,_,hl⟩:=h T d (c::cs)
  obtain⟨n,hn⟩:=Steps.trans a1 (.one (step_leave_returned hl));exact⟨n,_,w',hn,⟨v,hv,rfl⟩,rfl,rfl⟩
 ·subst s
  exact hn v w' q
def zY (P:Program)(fn:Func)(R:Value→World→Prop):Exit→Act→World→Prop
 | .normal,a,w| .ret,a,w=>a.defers=[]∧∃v,(∀W,(results fn a.tmps).run P W= .ok v W)∧R v w
 |_,_,_=>False
theorem zR (hP:zF P){f:FuncId}{fn:Func}{c:Code}{args:Array Value}{R:Value→World→Prop}(hf:P.funcs[f]? =some fn)(hb:fn.body=some c)
  (h:wpT P f c (zY P fn R) {tmps:=args++Array.replicate (fn.ntmps-args.size) undef,defers:=[]} w):zO P f args w R:=by
 intro c0 cs Z hc a4 hn;have a1 :∀f∈c0::cs,zK f:=fun f hf=>by
  rcases List.mem_cons.1 hf with rfl|hf
  ·exact hc
  ·exact a4 f hf
 have a2:Frame.enter P f args .normal=({(default:Frame)with fn:=f,kind:= .normal}:Frame).at {tmps:=args++Array.replicate (fn.ntmps-args.size) undef,defers:=[]} [.code c]:=by
  simp[Frame.enter,Frame.at,hf,hb]
 rw[a2];have a0:∀(a' :Act) (w' :World) (todo:List Item),(∀x∈todo,Xh x)→(a'.defers=[]∧∃v,(∀W,(results fn a'.tmps).run P W= .ok v W)∧R v w')→
   ToE P Z (G {({(default:Frame)with fn:=f,kind:= .normal}:Frame).at a' todo with mode:= .returning} (c0::cs)) w' :=by
  rintro a' w' todo a3 ⟨hd,v,hr,hp⟩;exact ToE.ctl hP (OkK.fitR ⟨a3,a1⟩) ⟨rfl,rfl⟩ (fun W=>step_leave_returned ⟨rfl,hd,rfl,fn,hf,hr W⟩) (hn v w' hp)
 refine h _ [] (c0::cs) Z rfl ⟨fun _ hx=>(by cases hx),a1⟩ (by simp) fun e a' w' q=> ?_
 cases e with
 |normal=>exact ToE.ctl (g' :=G {({(default:Frame)with fn:=f,kind:= .normal}:Frame).at a' []with mode:= .returning} (c0::cs)) hP (OkK.fit ⟨fun _ hx=>(by cases hx),a1⟩) ⟨rfl,rfl⟩ (fun w=>step_end) (a0 a' w' [] (fun _ hx=>by cases hx) q)
 |ret=>exact fun todo a3=>a0 a' w' todo a3 q
 |exit id=>exact q.elim
 |goto l=>exact q.elim
 |panic ch=>exact q.elim
 |outgrown=>exact q.elim
end
