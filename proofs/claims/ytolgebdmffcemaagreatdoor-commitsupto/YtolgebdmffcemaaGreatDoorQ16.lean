import Derived.Test.YtolgebdmffcemaaGreatDoorQ13
set_option linter.all false
set_option maxHeartbeats 20000000
set_option maxRecDepth 1000000
namespace Go.Proofs.YtolgebdmffcemaaGreatDoor
open Go.RowKit
def YZ (l:List UInt8):Nat:=l.foldl (fun a c=>10*a+(c.toNat-48)) 0
theorem Vx (l:List UInt8)(c:UInt8):YZ (l++ [c])=10*YZ l+(c.toNat-48):=by simp[YZ,List.foldl_append]
theorem kE (m:Nat)(h:m<10):(UInt8.ofNat (48+m)).toNat=48+m:=by
 rw[UInt8.toNat_ofNat'];omega
theorem o9:∀(n:Nat),(∀c∈Lib.decDigits n,48≤c.toNat∧c.toNat≤57)∧YZ (Lib.decDigits n)=n∧Lib.decDigits n≠ []:=by
 intro n;induction n using Nat.strongRecOn with
 |_ n ih=>
  by_cases h:9<n
  ·obtain⟨h1,h2,h3⟩:=ih (n/10) (by omega)
   rw[Kp n h];refine⟨fun c hc=> ?_,?_,by simp⟩
   ·rcases List.mem_append.1 hc with hc|hc
    ·exact h1 c hc
    ·rw[List.mem_singleton.1 hc,kE _ (by omega)];omega
   ·rw[Vx,h2,kE _ (by omega)];omega
  ·rw[v_ n h]
   refine⟨fun c hc=> ?_,?_,by simp⟩
   ·rw[List.mem_singleton.1 hc,kE _ (by omega)];omega
   ·rw[show [UInt8.ofNat (48+n)]=[]++ [UInt8.ofNat (48+n)]from rfl,Vx,kE _ (by omega)];simp[YZ]
theorem Ja:∀(k n:Nat),n<10^(k+1)→(Lib.decDigits n).length≤k+1
 |0,n,h=>by rw[v_ n (by omega)];simp
 |k+1,n,h=>by
  by_cases h9:9<n
  ·rw[Kp n h9,List.length_append]
   have:=Ja k (n/10) (by rw[Nat.pow_succ]at h;omega);simp;omega
  ·rw[v_ n h9];simp
theorem ju (l:List UInt8)(k:Nat)(h:k<l.length):YZ (l.take (k+1))=10*YZ (l.take k)+(l[k].toNat-48):=by
 rw[List.take_succ_eq_append_getElem h,Vx]
theorem Ki:∀(l:List UInt8) (a:Nat),(∀c∈l,c.toNat≤57)→l.foldl (fun a c=>10*a+(c.toNat-48)) a<(a+1)*10^l.length
 |[],a,_=>by simp
 |c::l,a,h=>by
  have h1:=Ki l (10*a+(c.toNat-48)) fun x hx=>h x (by simp[hx])
  have h2:=h c (by simp);rw[List.foldl_cons,List.length_cons,Nat.pow_succ];refine j0b h1 ?_;have:10*a+(c.toNat-48)+1≤(a+1)*10:=by omega
  calc (10*a+(c.toNat-48)+1)*10^l.length≤((a+1)*10)*10^l.length:=Nat.mul_le_mul_right _ this
   _=(a+1)*(10^l.length*10):=by rw[Nat.mul_assoc,Nat.mul_comm 10]
theorem Uy (l:List UInt8)(h:∀c∈l,c.toNat≤57):YZ l<10^l.length:=by
 have:=Ki l 0 h;simpa[YZ]using this
theorem Kk (l:List UInt8)(h:∀c∈l,c.toNat≤57)(k:Nat)(hl:l.length≤10):YZ (l.take k)<10000000000:=by
 have h1:=Uy (l.take k) fun c hc=>h c (List.mem_of_mem_take hc)
 have h2:(10:Nat)^(l.take k).length≤10^10:=Nat.pow_le_pow_right (by omega) (by simp;omega);omega
def xE (ps:List (Nat×Nat)):List Value:=ps.flatMap fun p=> [Value.pointer (some ⟨p.1,0,none⟩),.pointer (some ⟨p.2,0,none⟩)]
structure LWx (w:World)(M O:Nat→Prop)(Wb:Nat)(av:Value)(ps:List (Nat×Nat))(nv tv uv kv:Value)(names:List (Value×List UInt8))(nums:List (Value×Int))(last:Nat):Prop where
 sub:∀b,O b→M b
 lt:∀b,O b→b<w.heap.size
 own:O Wb
 c0:w.cell? ⟨Wb,0,none⟩=some av
 c1:w.cell? ⟨Wb,1,none⟩=some nv
 c2:w.cell? ⟨Wb,2,none⟩=some tv
 c3:w.cell? ⟨Wb,3,none⟩=some uv
 c4:w.cell? ⟨Wb,4,none⟩=some kv
 c5:w.cell? ⟨Wb,5,none⟩=some (.int .i64 (last:Int))
 fr:∀o,w.frozen? ⟨Wb,o,none⟩=false
 arow:w.ownsRow 0 85 2 av ps.length (xE ps)
 nrow:w.ownsRow 0 45 1 nv names.length (names.map (·.1))
 trow:w.ownsRow 0 9 1 tv names.length (names.map fun p=>S p.2)
 urow:w.ownsRow 0 39 1 uv nums.length (nums.map (·.1))
 krow:w.ownsRow 0 3 1 kv nums.length (nums.map fun p=> .int .i64 p.2)
 nO:∀g,nv.ownBlock=some g→O g∧g≠Wb
 tO:∀g,tv.ownBlock=some g→O g∧g≠Wb∧nv.ownBlock≠some g
 uO:∀g,uv.ownBlock=some g→O g∧g≠Wb∧nv.ownBlock≠some g∧tv.ownBlock≠some g
 kO:∀g,kv.ownBlock=some g→O g∧g≠Wb∧nv.ownBlock≠some g∧tv.ownBlock≠some g∧uv.ownBlock≠some g
 aO:∀g,av.ownBlock=some g→O g∧g≠Wb∧nv.ownBlock≠some g∧tv.ownBlock≠some g∧uv.ownBlock≠some g∧kv.ownBlock≠some g
 nl:∀p∈names,∃n,Rd w M p.1 n (List.replicate n (S p.2))
 ul:∀p∈nums,∃n,Rd w M p.1 n (List.replicate n (.int .i64 p.2))
theorem LWx.kept {w w' :World}{M M' O Z:Nat→Prop}{Wb:Nat}{av:Value}{ps:List (Nat×Nat)}{nv tv uv kv:Value}{names:List (Value×List UInt8)}{a0:List (Value×Int)}{last:Nat}(h:LWx w M O Wb av ps nv tv uv kv names a0 last)
  (hk:zj Z w w')(hZ:∀b,Z b→M b∧¬O b)(hM:∀b,M' b→M b∨w.heap.size≤b)(a2:∀b,O b→M' b):LWx w' M' O Wb av ps nv tv uv kv names a0 last:=by
 have hW:=h.lt Wb h.own;have hn:¬Z Wb:=fun e=>(hZ Wb e).2 h.own
 have a1:∀b,Z b→M b:=fun b e=>(hZ b e).1
 have cl:∀o v,w.cell? ⟨Wb,o,none⟩=some v→w'.cell? ⟨Wb,o,none⟩=some v:=fun o v e=>by rw[hk.cell (p:=⟨Wb,o,none⟩) hW hn];exact e
 exact⟨a2,fun b e=>j0b (h.lt b e) hk.size,h.own,cl _ _ h.c0,cl _ _ h.c1,cl _ _ h.c2,cl _ _ h.c3,cl _ _ h.c4,cl _ _ h.c5,fun o=>by rw[hk.frozen (p:=⟨Wb,o,none⟩) hW hn];exact h.fr o,
  zh h.arow hk (fun g e e2=>(hZ g e2).2 (h.aO g e).1),zh h.nrow hk (fun g e e2=>(hZ g e2).2 (h.nO g e).1),zh h.trow hk (fun g e e2=>(hZ g e2).2 (h.tO g e).1),zh h.urow hk (fun g e e2=>(hZ g e2).2 (h.uO g e).1),zh h.krow hk (fun g e e2=>(hZ g e2).2 (h.kO g e).1),
  h.nO,h.tO,h.uO,h.kO,h.aO,fun p hp=>by obtain⟨n,hr⟩:=h.nl p hp;exact⟨n,hr.step hk a1 hM⟩,fun p hp=>by obtain⟨n,hr⟩:=h.ul p hp;exact⟨n,hr.step hk a1 hM⟩⟩
abbrev BrP:=R.Br×Nat×Value
def xI (L:List BrP):List Value:=L.map fun p=>Value.pointer (some ⟨p.2.1,0,none⟩)
def YN (L:List (R.Cm×Value×Value)):List Value:=L.flatMap fun p=> [p.2.1,p.2.2]
structure V5 (w:World)(M:Nat→Prop)(p:BrP):Prop where
 c0:w.cell? ⟨p.2.1,0,none⟩=some (.string ⟨p.1.name.toArray⟩)
 c1:w.cell? ⟨p.2.1,1,none⟩=some (.int .i64 (p.1.head:Int))
 c2:w.cell? ⟨p.2.1,2,none⟩=some p.2.2
 fr:∀o,w.frozen? ⟨p.2.1,o,none⟩=false
 work:PT w M p.2.2 p.1.work
structure Jf (w:World)(O:Nat→Prop)(B:Nat)(pk:List UInt8)(bv cv:Value)(LB:List BrP)(pv:Value):Prop where
 c2:w.cell? ⟨B,2,none⟩=some pv
 row:w.ownsRow 0 5 1 pv pk.length (Lib.byteCells pk)
 rowO:∀g,pv.ownBlock=some g→O g∧g≠B∧bv.ownBlock≠some g∧cv.ownBlock≠some g∧∀p∈LB,p.2.1≠g
structure PSx (w:World)(M O:Nat→Prop)(B:Nat)(st:R.St)(bv cv:Value)(LB:List BrP)(LCm:List (R.Cm×Value×Value)):Prop where
 sub:∀b,O b→M b
 lt:∀b,O b→b<w.heap.size
 own:O B
 c0:w.cell? ⟨B,0,none⟩=some bv
 c1:w.cell? ⟨B,1,none⟩=some cv
 fr:∀o,w.frozen? ⟨B,o,none⟩=false
 brs:LB.map (·.1)=st.brs
 row:w.ownsRow 0 88 1 bv LB.length (xI LB)
 rowO:∀g,bv.ownBlock=some g→O g∧g≠B
 at_:∀p∈LB,V5 w M p
 blk:∀p∈LB,O p.2.1∧p.2.1≠B∧bv.ownBlock≠some p.2.1∧cv.ownBlock≠some p.2.1
 dist:(LB.map (·.2.1)).Nodup
 cms:LCm.map (·.1)=st.cms
 crow:w.ownsRow 0 114 2 cv LCm.length (YN LCm)
 crowO:∀g,cv.ownBlock=some g→O g∧g≠B∧bv.ownBlock≠some g
 ctree:∀p∈LCm,PT w M p.2.2 p.1.tree
 cpar:∀p∈LCm,Rd w M p.2.1 p.1.parents.length (p.1.parents.map fun(n:Nat)=>Value.int .i64 (n:Int))
 pk:∃pv,Jf w O B st.packed bv cv LB pv
theorem Jf.kept {w w' :World}{O Z:Nat→Prop}{B:Nat}{pk:List UInt8}{bv cv pv:Value}{LB:List BrP}(h:Jf w O B pk bv cv LB pv)(hk:zj Z w w')(hB:B<w.heap.size)(a0:¬Z B)(hZ:∀g,pv.ownBlock=some g→¬Z g):Jf w' O B pk bv cv LB pv:=
 ⟨by rw[hk.cell (p:=⟨B,2,none⟩) hB a0];exact h.c2,zh h.row hk hZ,h.rowO⟩
def PS (w:World)(M O:Nat→Prop)(B:Nat)(st:R.St):Prop:=∃bv cv LB LCm,PSx w M O B st bv cv LB LCm
def zR (w w' :World)(M O:Nat→Prop)(B:Nat)(st' :R.St):Prop:=∃O',PS w' (fun b=>M b∨O' b) O' B st' ∧zj O w w' ∧(∀b,O' b→O b∨w.heap.size≤b)
theorem V5.kept {w w' :World}{M M' Z:Nat→Prop}{p:BrP}(h:V5 w M p)(hk:zj Z w w')(hb:p.2.1<w.heap.size)(hZ:¬Z p.2.1)(a0:∀b,Z b→M b)(hM:∀b,M' b→M b∨w.heap.size≤b):V5 w' M' p:=
 ⟨by rw[hk.cell (p:=⟨p.2.1,0,none⟩) hb hZ];exact h.c0,by rw[hk.cell (p:=⟨p.2.1,1,none⟩) hb hZ];exact h.c1,by rw[hk.cell (p:=⟨p.2.1,2,none⟩) hb hZ];exact h.c2,
  fun o=>by rw[hk.frozen (p:=⟨p.2.1,o,none⟩) hb hZ];exact h.fr o,h.work.step hk a0 hM⟩
theorem PSx.kept {w w' :World}{M O:Nat→Prop}{B:Nat}{st:R.St}{bv cv:Value}{LB:List BrP}{a2:List (R.Cm×Value×Value)}(h:PSx w M O B st bv cv LB a2){Z:Nat→Prop}(hk:zj Z w w')(hZ:∀b,Z b→M b∧¬O b){M' :Nat→Prop}(hM:∀b,M' b→M b∨w.heap.size≤b)(a3:∀b,O b→M' b):PSx w' M' O B st bv cv LB a2:=by
 have hB:=h.lt B h.own;have a0:¬Z B:=fun e=>(hZ B e).2 h.own
 have a1:∀b,Z b→M b:=fun b e=>(hZ b e).1
 exact⟨a3,fun b hb=>j0b (h.lt b hb) hk.size,h.own,by rw[hk.cell (p:=⟨B,0,none⟩) hB a0];exact h.c0,by rw[hk.cell (p:=⟨B,1,none⟩) hB a0];exact h.c1,
  fun o=>by rw[hk.frozen (p:=⟨B,o,none⟩) hB a0];exact h.fr o,h.brs,zh h.row hk (fun g e e2=>(hZ g e2).2 (h.rowO g e).1),h.rowO,
  fun p hp=>(h.at_ p hp).kept hk (h.lt _ (h.blk p hp).1) (fun e=>(hZ _ e).2 (h.blk p hp).1) a1 hM,h.blk,h.dist,h.cms,zh h.crow hk (fun g e e2=>(hZ g e2).2 (h.crowO g e).1),h.crowO,
  fun p hp=>(h.ctree p hp).step hk a1 hM,fun p hp=>(h.cpar p hp).step hk a1 hM,
  by obtain⟨pv,hp⟩:=h.pk;exact⟨pv,hp.kept hk hB a0 (fun g e e2=>(hZ g e2).2 (hp.rowO g e).1)⟩⟩
theorem PS.kept {w w' :World}{M O:Nat→Prop}{B:Nat}{st:R.St}(h:PS w M O B st){Z:Nat→Prop}(hk:zj Z w w')(hZ:∀b,Z b→M b∧¬O b){M' :Nat→Prop}(hM:∀b,M' b→M b∨w.heap.size≤b)(a1:∀b,O b→M' b):PS w' M' O B st:=by
 obtain⟨bv,cv,LB,a0,h⟩:=h;exact⟨bv,cv,LB,a0,h.kept hk hZ hM a1⟩
theorem PSx.below {w w' :World}{M O:Nat→Prop}{B:Nat}{st:R.St}{bv cv:Value}{LB:List BrP}{a0:List (R.Cm×Value×Value)}(h:PSx w M O B st bv cv LB a0)(hb:Below w.heap.size w w'):PSx w' M O B st bv cv LB a0:=
 h.kept (zj.of_below (M:=fun _=>False) hb) (fun _ e=>e.elim) (fun _ e=> .inl e) h.sub
theorem PS.below {w w' :World}{M O:Nat→Prop}{B:Nat}{st:R.St}(h:PS w M O B st)(hb:Below w.heap.size w w'):PS w' M O B st:=by
 obtain⟨bv,cv,LB,a0,h⟩:=h;exact⟨bv,cv,LB,a0,h.below hb⟩
theorem zR.same {w w' :World}{M O:Nat→Prop}{B:Nat}{st:R.St}(h:PS w M O B st)(hb:Below w.heap.size w w'):zR w w' M O B st:=by
 have hs:∀b,O b→M b:=by obtain⟨bv,cv,LB,a0,h⟩:=h;exact h.sub
 exact⟨O,(h.below hb).kept (zj.refl (fun _=>False) _) (fun _ e=>e.elim) (fun b e=>by rcases e with e|e;exact .inl e;exact .inl (hs b e)) (fun b e=> .inr e),zj.of_below hb,fun b e=> .inl e⟩
theorem zR.trans {w w1 w2:World}{M O O1:Nat→Prop}{B:Nat}{st:R.St}(hk:zj O w w1)(hO:∀b,O1 b→O b∨w.heap.size≤b)(h:zR w1 w2 (fun b=>M b∨O1 b) O1 B st):zR w w2 M O B st:=by
 obtain⟨O2,hp,a0,h2⟩:=h;refine⟨O2,hp.kept (zj.refl (fun _=>False) _) (fun _ e=>e.elim) (fun b e=> ?_) (fun b e=> .inr e),⟨a0.os.trans hk.os,a0.tape.trans hk.tape,a0.output.trans hk.output,j0f hk.size a0.size,fun k a1 hn=> ?_⟩,fun b e=> ?_⟩
 ·rcases e with e|e
  ·exact .inl (.inl (.inl e))
  ·exact .inl (.inr e)
 ·rw[a0.block k (j0b a1 hk.size) (fun e=>by rcases hO k e with e|e;exact hn e;omega)]
  exact hk.block k a1 hn
 ·rcases h2 b e with e|e
  ·exact hO b e
  ·exact .inr (j0f hk.size e)
theorem zR.after {w w1 w2:World}{M O:Nat→Prop}{B:Nat}{st:R.St}(hb:Below w.heap.size w w1)(h:zR w1 w2 M O B st):zR w w2 M O B st:=by
 obtain⟨O2,hp,a0,h2⟩:=h;exact⟨O2,hp,(zj.of_below hb).trans a0,fun b e=>by
  rcases h2 b e with e|e
  ·exact .inl e
  ·exact .inr (j0f hb.size e)⟩
theorem XS {w:World}{g:Nat}{L:List BrP}(hc:∀j u,(xI L)[j]? =some u→w.cell? ⟨g,j,none⟩=some u)(i:Nat)(h:i<L.length):w.cell? ⟨g,i,none⟩=some (.pointer (some ⟨(L[i]'h).2.1,0,none⟩)):=
 hc i _ (by simp[xI,h])
theorem kX {w w5:World}{M O:Nat→Prop}{B:Nat}{st st' :R.St}{bv cv:Value}{LB LB' :List BrP}{b7:List (R.Cm×Value×Value)}(hP:PSx w M O B st bv cv LB b7){v3:Value}(hK:zj (fun b=>bv.ownBlock=some b) w w5)
  (a7:w5.ownsRow 0 88 1 v3 LB'.length (xI LB'))(a3:∀g,v3.ownBlock=some g→bv.ownBlock=some g∨w.heap.size≤g)
  (a1:∀p∈LB',p∈LB∨(w.heap.size≤p.2.1∧p.2.1<w5.heap.size∧(PT w M p.2.2 p.1.work∧V5 w5 (fun _=>False) p)∧v3.ownBlock≠some p.2.1))(a5:(LB'.map (·.2.1)).Nodup)(b4:LB'.map (·.1)=st'.brs)(b5:st'.cms=st.cms)(b6:st'.packed=st.packed):
  ∃O',PSx (w5.setCell ⟨B,0,none⟩ v3) (fun b=>M b∨O' b) O' B st' v3 cv LB' b7∧zj O w (w5.setCell ⟨B,0,none⟩ v3)∧(∀b,O' b→O b∨w.heap.size≤b):=by
 have hB:=hP.lt B hP.own;have a4:bv.ownBlock≠some B:=fun e=>(hP.rowO B e).2 rfl
 have b1:∀b,(bv.ownBlock=some b∨b=B)→M b:=by
  rintro b (e|rfl)
  ·exact hP.sub b (hP.rowO b e).1
  ·exact hP.sub _ hP.own
 have a2:zj (fun b=>bv.ownBlock=some b∨b=B) w (w5.setCell ⟨B,0,none⟩ v3):=(hK.mono (fun b e=> .inl e)).setCell (p:=⟨B,0,none⟩) (.inl (.inr rfl)) v3;have a0:zj (fun b=>b=B) w5 (w5.setCell ⟨B,0,none⟩ v3):=(zj.refl (fun b=>b=B) w5).setCell (p:=⟨B,0,none⟩) (.inl rfl) v3;have b8:w5.cell? ⟨B,0,none⟩=some bv:=by rw[hK.cell (p:=⟨B,0,none⟩) hB a4];exact hP.c0
 have a8:v3.ownBlock≠some B:=fun e=>by
  rcases a3 B e with e|e
  ·exact a4 e
  ·omega
 have a9:∀O' :Nat→Prop,(∀b,O' b→O b∨w.heap.size≤b)→∀b,(M b∨O' b)→M b∨w.heap.size≤b:=fun O' h b e=>by
  rcases e with e|e
  ·exact .inl e
  ·rcases h b e with e|e
   ·exact .inl (hP.sub b e)
   ·exact .inr e
 refine⟨fun b=>O b∨v3.ownBlock=some b∨∃p∈LB',p.2.1=b,?_,a2.mono (fun b e=>by
  rcases e with e|rfl
  ·exact(hP.rowO b e).1
  ·exact hP.own),fun b e=>by
  rcases e with e|e|⟨p,hp,rfl⟩
  ·exact .inl e
  ·rcases a3 b e with e|e
   ·exact .inl (hP.rowO b e).1
   ·exact .inr e
  ·rcases a1 p hp with h|h
   ·exact .inl (hP.blk p h).1
   ·exact .inr h.1⟩
 have b0 :∀b,(O b∨v3.ownBlock=some b∨∃p∈LB',p.2.1=b)→O b∨w.heap.size≤b:=fun b e=>by
  rcases e with e|e|⟨p,hp,rfl⟩
  ·exact .inl e
  ·rcases a3 b e with e|e
   ·exact .inl (hP.rowO b e).1
   ·exact .inr e
  ·rcases a1 p hp with h|h
   ·exact .inl (hP.blk p h).1
   ·exact .inr h.1
 have c6:w.heap.size≤w5.heap.size:=hK.size;refine⟨fun b e=> .inr e,fun b e=> ?_,.inl hP.own,zD _ _ _ _ _ b8,?_,fun o=> ?_,b4,zh a7 a0 (fun g e e2=>a8 (by rw[e,e2])),fun g e=>⟨.inr (.inl e),fun e2=>a8 (by rw[e,e2])⟩,?_,?_,a5,by rw[b5];exact hP.cms,?_,?_,?_,?_,?_⟩
 ·have:b<w5.heap.size:=by
   rcases e with e|e|⟨p,hp,rfl⟩
   ·have:=hP.lt b e;omega
   ·exact(a7.lt b e).2
   ·rcases a1 p hp with h|h
    ·have:=hP.lt _ (hP.blk p h).1;omega
    ·exact h.2.1
  exact j0b this a0.size
 ·rw[z9 _ _ _ _ _ (by omega),hK.cell (p:=⟨B,1,none⟩) hB a4];exact hP.c1
 ·have:=(zj.refl (fun b=>b=B) w5).setCell (p:=⟨B,0,none⟩) (.inl rfl) v3
  rw[World.frozen?_setCell,hK.frozen (p:=⟨B,o,none⟩) hB a4];exact hP.fr o
 ·intro p hp
  rcases a1 p hp with h|h
  ·exact(hP.at_ p h).kept a2 (hP.lt _ (hP.blk p h).1) (fun e=>by
    rcases e with e|e
    ·exact(hP.blk p h).2.2.1 e
    ·exact(hP.blk p h).2.1 e) b1 (a9 _ b0)
  ·have b2:=h.2.2.1.2
   have b3:¬p.2.1=B:=by have:=h.1;omega
   exact⟨by rw[a0.cell (p:=⟨p.2.1,0,none⟩) h.2.1 b3];exact b2.c0,by rw[a0.cell (p:=⟨p.2.1,1,none⟩) h.2.1 b3];exact b2.c1,by rw[a0.cell (p:=⟨p.2.1,2,none⟩) h.2.1 b3];exact b2.c2,
    fun o=>by rw[a0.frozen (p:=⟨p.2.1,o,none⟩) h.2.1 b3];exact b2.fr o,h.2.2.1.1.step a2 b1 (a9 _ b0)⟩
 ·intro p hp
  refine⟨.inr (.inr ⟨p,hp,rfl⟩),?_⟩;rcases a1 p hp with h|h
  ·refine⟨(hP.blk p h).2.1,fun e=> ?_,(hP.blk p h).2.2.2⟩
   rcases a3 _ e with e|e
   ·exact(hP.blk p h).2.2.1 e
   ·have:=hP.lt _ (hP.blk p h).1;omega
  ·exact⟨by omega,h.2.2.2,fun e=>by have:=hP.lt _ (hP.crowO _ e).1;omega⟩
 ·exact zh hP.crow a2 (fun g e e2=>by
   rcases e2 with e2|e2
   ·exact(hP.crowO g e).2.2 e2
   ·exact(hP.crowO g e).2.1 e2)
 ·intro g e
  refine⟨.inl (hP.crowO g e).1,(hP.crowO g e).2.1,fun e2=> ?_⟩;rcases a3 g e2 with e2|e2
  ·exact(hP.crowO g e).2.2 e2
  ·have:=hP.lt _ (hP.crowO g e).1;omega
 ·exact fun p hp=>(hP.ctree p hp).step a2 b1 (a9 _ b0)
 ·exact fun p hp=>(hP.cpar p hp).step a2 b1 (a9 _ b0)
 ·rw[b6]
  obtain⟨pv,a6⟩:=hP.pk;have hZ:∀g,pv.ownBlock=some g→¬(bv.ownBlock=some g∨g=B):=fun g e e2=>by
   rcases e2 with e2|e2
   ·exact(a6.rowO g e).2.2.1 e2
   ·exact(a6.rowO g e).2.1 e2
  refine⟨pv,?_,zh a6.row a2 hZ,fun g e=> ?_⟩
  ·rw[z9 _ _ _ _ _ (by omega),hK.cell (p:=⟨B,2,none⟩) hB a4];exact a6.c2
  ·have hg:=a6.rowO g e
   have b9:=hP.lt g hg.1;refine⟨.inl hg.1,hg.2.1,fun e2=> ?_,hg.2.2.2.1,fun p hp=> ?_⟩
   ·rcases a3 g e2 with e2|e2
    ·exact hg.2.2.1 e2
    ·omega
   ·rcases a1 p hp with h|h
    ·exact hg.2.2.2.2 p h
    ·have:=h.1;omega
theorem gp {w w5:World}{M O:Nat→Prop}{B:Nat}{st st' :R.St}{bv cv:Value}{LB:List BrP}{a6:List (R.Cm×Value×Value)}(hP:PSx w M O B st bv cv LB a6){v3:Value}(hK:zj (fun b=>bv.ownBlock=some b) w w5)(nb:BrP)
  (a5:w5.ownsRow 0 88 1 v3 (LB.length+1) ((xI LB).take (R.pos st.brs nb.1.name)++(Value.pointer (some ⟨nb.2.1,0,none⟩)::(xI LB).drop (R.pos st.brs nb.1.name))))(a9:∀g,v3.ownBlock=some g→bv.ownBlock=some g∨w.heap.size≤g)
  (a7:w.heap.size≤nb.2.1∧nb.2.1<w5.heap.size∧(PT w M nb.2.2 nb.1.work∧V5 w5 (fun _=>False) nb)∧v3.ownBlock≠some nb.2.1)(a1:st'.brs=R.insB st.brs nb.1)(a2:st'.cms=st.cms)(a4:st'.packed=st.packed):
  ∃O',PSx (w5.setCell ⟨B,0,none⟩ v3) (fun b=>M b∨O' b) O' B st' v3 cv (LB.take (R.pos st.brs nb.1.name)++nb::LB.drop (R.pos st.brs nb.1.name)) a6∧zj O w (w5.setCell ⟨B,0,none⟩ v3)∧(∀b,O' b→O b∨w.heap.size≤b):=by
 have a3:st.brs.length=LB.length:=by rw[←hP.brs,List.length_map]
 have a8:R.pos st.brs nb.1.name≤LB.length:=by rw[←a3];exact List.findIdx_le_length
 generalize hp:R.pos st.brs nb.1.name=p at*;refine kX hP hK (LB' :=LB.take p++nb::LB.drop p) ?_ a9 ?_ ?_ ?_ a2 a4
 ·have e1:(LB.take p++nb::LB.drop p).length=LB.length+1:=by simp only[List.length_append,List.length_take,List.length_cons,List.length_drop];omega
  have e2:xI (LB.take p++nb::LB.drop p)=(xI LB).take p++(Value.pointer (some ⟨nb.2.1,0,none⟩)::(xI LB).drop p):=by simp[xI,List.map_take,List.map_drop]
  rw[e1,e2];exact a5
 ·intro q hq
  rcases List.mem_append.1 hq with h|h
  ·exact .inl (List.mem_of_mem_take h)
  ·rcases List.mem_cons.1 h with rfl|h
   ·exact .inr a7
   ·exact .inl (List.mem_of_mem_drop h)
 ·have a0:(LB.take p++nb::LB.drop p).Perm (nb::LB):=by
   have:=List.perm_middle (l₁:=LB.take p) (a:=nb) (l₂:=LB.drop p);rwa[List.take_append_drop]at this
  rw[(a0.map (fun q:BrP=>q.2.1)).nodup_iff,List.map_cons,List.nodup_cons];refine⟨fun hm=> ?_,hP.dist⟩;obtain⟨q,hq,e⟩:=List.mem_map.1 hm;have:=hP.lt _ (hP.blk q hq).1;have:=a7.1;omega
 ·rw[a1,R.insB,hp,←hP.brs];simp[List.map_take,List.map_drop]
theorem gK {w w5:World}{M O:Nat→Prop}{B:Nat}{st st' :R.St}{bv cv:Value}{LB:List BrP}{a5:List (R.Cm×Value×Value)}(hP:PSx w M O B st bv cv LB a5){v3:Value}(hK:zj (fun b=>bv.ownBlock=some b) w w5){p:Nat}(hp:p<LB.length)
  (a4:w5.ownsRow 0 88 1 v3 (LB.length-1) ((xI LB).take p++(xI LB).drop (p+1)))(a6:∀g,v3.ownBlock=some g→bv.ownBlock=some g∨w.heap.size≤g)
  (a1:st'.brs=st.brs.take p++st.brs.drop (p+1))(a2:st'.cms=st.cms)(a3:st'.packed=st.packed):
  ∃O',PSx (w5.setCell ⟨B,0,none⟩ v3) (fun b=>M b∨O' b) O' B st' v3 cv (LB.take p++LB.drop (p+1)) a5∧zj O w (w5.setCell ⟨B,0,none⟩ v3)∧(∀b,O' b→O b∨w.heap.size≤b):=by
 have a0:(LB.take p++LB.drop (p+1)).Sublist LB:=by
  have h1:(LB.drop (p+1)).Sublist (LB.drop p):=by rw[←List.drop_drop];exact List.drop_sublist _ _
  have:=List.Sublist.append (List.Sublist.refl (LB.take p)) h1;rwa[List.take_append_drop]at this
 refine kX hP hK (LB' :=LB.take p++LB.drop (p+1)) ?_ a6 (fun q hq=> .inl (a0.subset hq)) ((a0.map _).nodup hP.dist) ?_ a2 a3
 ·have e1:(LB.take p++LB.drop (p+1)).length=LB.length-1:=by simp only[List.length_append,List.length_take,List.length_drop];omega
  have e2:xI (LB.take p++LB.drop (p+1))=(xI LB).take p++(xI LB).drop (p+1):=by simp[xI,List.map_take,List.map_drop]
  rw[e1,e2];exact a4
 ·rw[a1,←hP.brs];simp[List.map_take,List.map_drop]
theorem Q6 {w w5 w6:World}{M O:Nat→Prop}{B:Nat}{st:R.St}{bv cv:Value}{LB:List BrP}{b0:List (R.Cm×Value×Value)}(hP:PSx w M O B st bv cv LB b0){i:Nat}(hi:i<LB.length){tv:Value}{nb:R.Br}(b1:Below w.heap.size w w5)
  (a1:zj (fun b=>b=(LB[i]'hi).2.1) w5 w6)(b5:V5 w6 M (nb,(LB[i]'hi).2.1,tv)):
  PSx w6 M O B {st with brs:=st.brs.set i nb} bv cv (LB.set i (nb,(LB[i]'hi).2.1,tv)) b0∧zj O w w6:=by
 have a0:=hP.below b1;have a8:LB[i]'hi∈LB:=j0c hi;obtain⟨hO,a4,b4,b3⟩:=hP.blk _ a8;have b7:=a0.lt _ hO;generalize hx:LB[i]'hi=x at*;have a7:∀b,b=x.2.1→M b:=fun b e=>by subst e;exact hP.sub _ hO
 have a6:∀b,M b→M b∨w5.heap.size≤b:=fun b e=> .inl e
 refine⟨?_,((zj.of_below b1).mono (M:=fun _=>False) (fun _ e=>e.elim)).trans (a1.mono (fun b e=>by subst e;exact hO))⟩;have a2:(LB.set i (nb,x.2.1,tv)).map (·.2.1)=LB.map (·.2.1):=by
  rw[List.map_set];apply List.ext_getElem?;intro j;rw[List.getElem?_set];split
  ·rename_i e;subst e;simp[hi,hx]
  ·rfl
 have a9:xI (LB.set i (nb,x.2.1,tv))=xI LB:=by
  have:=congrArg (List.map fun b:Nat=>Value.pointer (some ⟨b,0,none⟩)) a2;simpa[xI,List.map_map,Function.comp_def]using this
 have a3:∀p∈LB.set i (nb,x.2.1,tv),p=(nb,x.2.1,tv)∨(p∈LB∧p.2.1≠x.2.1):=by
  intro p hp;obtain⟨j,hj,rfl⟩:=List.getElem_of_mem hp;rw[List.getElem_set];split
  ·exact .inl rfl
  ·rename_i b6
   have b2 :j<LB.length:=by simpa using hj
   refine .inr ⟨j0c _,fun e=>b6 ?_⟩;have hd:=hP.dist;unfold List.Nodup at hd;rw[List.pairwise_iff_getElem]at hd;rcases Nat.lt_trichotomy i j with h|h|h
   ·exact(hd i j (by simpa using hi) (by simpa using b2) h (by rw[List.getElem_map,List.getElem_map,hx];exact e.symm)).elim
   ·exact h
   ·exact(hd j i (by simpa using b2) (by simpa using hi) h (by rw[List.getElem_map,List.getElem_map,hx];exact e)).elim
 refine⟨hP.sub,fun b e=>j0b (a0.lt b e) a1.size,hP.own,?_,?_,fun o=> ?_,?_,?_,hP.rowO,?_,?_,by rw[a2];exact hP.dist,hP.cms,?_,hP.crowO,?_,?_,?_⟩
 ·rw[a1.cell (p:=⟨B,0,none⟩) (a0.lt B hP.own) (fun e=>a4 e.symm)];exact a0.c0
 ·rw[a1.cell (p:=⟨B,1,none⟩) (a0.lt B hP.own) (fun e=>a4 e.symm)];exact a0.c1
 ·rw[a1.frozen (p:=⟨B,o,none⟩) (a0.lt B hP.own) (fun e=>a4 e.symm)];exact a0.fr o
 ·rw[List.map_set,hP.brs]
 ·rw[List.length_set,a9]
  exact zh a0.row a1 (fun g e e2=>b4 (by rw[e,e2]))
 ·intro p hp
  rcases a3 p hp with rfl|⟨hp,b8⟩
  ·exact b5
  ·exact(a0.at_ p hp).kept a1 (a0.lt _ (hP.blk p hp).1) b8 a7 a6
 ·intro p hp
  rcases a3 p hp with rfl|⟨hp,_⟩
  ·exact⟨hO,a4,b4,b3⟩
  ·exact hP.blk p hp
 ·exact zh a0.crow a1 (fun g e e2=>b3 (by rw[e,e2]))
 ·exact fun p hp=>(a0.ctree p hp).step a1 a7 a6
 ·exact fun p hp=>(a0.cpar p hp).step a1 a7 a6
 ·obtain⟨pv,a5⟩:=a0.pk
  refine⟨pv,?_,zh a5.row a1 (fun g e e2=>(a5.rowO g e).2.2.2.2 x (by rw[←hx];exact j0c hi) e2.symm),fun g e=> ?_⟩
  ·rw[a1.cell (p:=⟨B,2,none⟩) (a0.lt B hP.own) (fun e=>a4 e.symm)];exact a5.c2
  ·have hg:=a5.rowO g e
   refine⟨hg.1,hg.2.1,hg.2.2.1,hg.2.2.2.1,fun p hp=> ?_⟩;rcases a3 p hp with rfl|⟨hp,_⟩
   ·exact hg.2.2.2.2 x (by rw[←hx];exact j0c hi)
   ·exact hg.2.2.2.2 p hp
theorem PSx.toStep {w w' :World}{M O O' :Nat→Prop}{B:Nat}{st' :R.St}{bv cv:Value}{LB:List BrP}{a0:List (R.Cm×Value×Value)}(h:PSx w' (fun b=>M b∨O' b) O' B st' bv cv LB a0)(hk:zj O w w')(hO:∀b,O' b→O b∨w.heap.size≤b):zR w w' M O B st' :=⟨O',⟨bv,cv,LB,a0,h⟩,hk,hO⟩
theorem PSx.widen {w:World}{M O:Nat→Prop}{B:Nat}{st:R.St}{bv cv:Value}{LB:List BrP}{a0:List (R.Cm×Value×Value)}(h:PSx w M O B st bv cv LB a0):PSx w (fun b=>M b∨O b) O B st bv cv LB a0:=
 h.kept (zj.refl (fun _=>False) _) (fun _ e=>e.elim) (fun b e=>by rcases e with e|e;exact .inl e;exact .inl (h.sub b e)) (fun b e=> .inr e)
theorem U3 {w w5:World}{M O:Nat→Prop}{B:Nat}{st:R.St}{bv cv:Value}{LB:List BrP}{a3:List (R.Cm×Value×Value)}(hP:PSx w M O B st bv cv LB a3){i:Nat}(hi:i<LB.length){tv:Value}{t:List R.Leaf}(a2:Below w.heap.size w w5)(a5:PT w5 M tv t):
  zR w (w5.setCell ⟨(LB[i]'hi).2.1,2,none⟩ tv) M O B (R.setWork st i t):=by
 have a0:=(hP.below a2).at_ _ (j0c hi);have hO:=(hP.blk _ (j0c hi)).1;have a1:zj (fun b=>b=(LB[i]'hi).2.1) w5 (w5.setCell ⟨(LB[i]'hi).2.1,2,none⟩ tv):=(zj.refl (fun b=>b=(LB[i]'hi).2.1) w5).setCell (p:=⟨(LB[i]'hi).2.1,2,none⟩) (.inl rfl) tv;obtain⟨h1,h2⟩:=Q6 (nb:={(LB[i]'hi).1 with work:=t}) (tv:=tv) hP hi a2 a1 ⟨by rw[z9 _ _ _ _ _ (by omega)];exact a0.c0,by rw[z9 _ _ _ _ _ (by omega)];exact a0.c1,zD _ _ _ _ _ a0.c2,fun o=>by rw[World.frozen?_setCell];exact a0.fr o,
  a5.step a1 (fun b e=>by subst e;exact hP.sub _ hO) (fun b e=> .inl e)⟩
 have he:R.setWork st i t={st with brs:=st.brs.set i {(LB[i]'hi).1 with work:=t}}:=by
  have a4:st.brs[i]? =some (LB[i]'hi).1:=by rw[←hP.brs,List.getElem?_map,j0d hi];rfl
  unfold R.setWork;rw[a4]
 rw[he];exact h1.widen.toStep h2 (fun b e=> .inl e)
theorem Oy {w w5:World}{M O:Nat→Prop}{B:Nat}{st:R.St}{bv cv pv:Value}{LB:List BrP}{a9:List (R.Cm×Value×Value)}(hP:PSx w M O B st bv cv LB a9)(a0:Jf w O B st.packed bv cv LB pv){v3:Value}{pk:List UInt8}(hK:zj (fun b=>pv.ownBlock=some b) w w5)
  (a4:w5.ownsRow 0 5 1 v3 pk.length (Lib.byteCells pk))(a7:∀g,v3.ownBlock=some g→pv.ownBlock=some g∨w.heap.size≤g):
  zR w (w5.setCell ⟨B,2,none⟩ v3) M O B {st with packed:=pk}:=by
 have hB:=hP.lt B hP.own;have a2:pv.ownBlock≠some B:=fun e=>(a0.rowO B e).2.1 rfl
 have a1:zj (fun b=>pv.ownBlock=some b∨b=B) w (w5.setCell ⟨B,2,none⟩ v3):=(hK.mono (fun b e=> .inl e)).setCell (p:=⟨B,2,none⟩) (.inl (.inr rfl)) v3;have a3:zj (fun b=>b=B) w5 (w5.setCell ⟨B,2,none⟩ v3):=(zj.refl (fun b=>b=B) w5).setCell (p:=⟨B,2,none⟩) (.inl rfl) v3;have a6:∀b,(pv.ownBlock=some b∨b=B)→M b:=by
  rintro b (e|rfl)
  ·exact hP.sub b (a0.rowO b e).1
  ·exact hP.sub _ hP.own
 have a8:v3.ownBlock≠some B:=fun e=>by
  rcases a7 B e with e|e
  ·exact a2 e
  ·omega
 have b0 :∀b,(O b∨v3.ownBlock=some b)→O b∨w.heap.size≤b:=fun b e=>by
  rcases e with e|e
  ·exact .inl e
  ·rcases a7 b e with e|e
   ·exact .inl (a0.rowO b e).1
   ·exact .inr e
 have a5:∀b,(M b∨(O b∨v3.ownBlock=some b))→M b∨w.heap.size≤b:=fun b e=>by
  rcases e with e|e
  ·exact .inl e
  ·rcases b0 b e with e|e
   ·exact .inl (hP.sub b e)
   ·exact .inr e
 have b1:w.heap.size≤w5.heap.size:=hK.size;refine⟨fun b=>O b∨v3.ownBlock=some b,⟨bv,cv,LB,a9,fun b e=> .inr e,fun b e=> ?_,.inl hP.own,?_,?_,fun o=> ?_,hP.brs,?_,fun g e=>⟨.inl (hP.rowO g e).1,(hP.rowO g e).2⟩,?_,fun p hp=>⟨.inl (hP.blk p hp).1,(hP.blk p hp).2⟩,hP.dist,hP.cms,?_,fun g e=>⟨.inl (hP.crowO g e).1,(hP.crowO g e).2⟩,?_,?_,v3,?_,?_,?_⟩,a1.mono (fun b e=>by
  rcases e with e|rfl
  ·exact(a0.rowO b e).1
  ·exact hP.own),b0⟩
 ·have:b<w5.heap.size:=by
   rcases e with e|e
   ·have:=hP.lt b e;omega
   ·exact(a4.lt b e).2
  exact j0b this a3.size
 ·rw[z9 _ _ _ _ _ (by omega),hK.cell (p:=⟨B,0,none⟩) hB a2];exact hP.c0
 ·rw[z9 _ _ _ _ _ (by omega),hK.cell (p:=⟨B,1,none⟩) hB a2];exact hP.c1
 ·rw[World.frozen?_setCell,hK.frozen (p:=⟨B,o,none⟩) hB a2];exact hP.fr o
 ·exact zh hP.row a1 (fun g e e2=>by
   rcases e2 with e2|e2
   ·exact(a0.rowO g e2).2.2.1 e
   ·exact(hP.rowO g e).2 e2)
 ·exact fun p hp=>(hP.at_ p hp).kept a1 (hP.lt _ (hP.blk p hp).1) (fun e=>by
   rcases e with e|e
   ·exact(a0.rowO _ e).2.2.2.2 p hp rfl
   ·exact(hP.blk p hp).2.1 e) a6 a5
 ·exact zh hP.crow a1 (fun g e e2=>by
   rcases e2 with e2|e2
   ·exact(a0.rowO g e2).2.2.2.1 e
   ·exact(hP.crowO g e).2.1 e2)
 ·exact fun p hp=>(hP.ctree p hp).step a1 a6 a5
 ·exact fun p hp=>(hP.cpar p hp).step a1 a6 a5
 ·exact zD _ _ _ _ pv (by rw[hK.cell (p:=⟨B,2,none⟩) hB a2];exact a0.c2)
 ·exact zh a4 a3 (fun g e e2=>a8 (by rw[e,e2]))
 ·intro g e
  rcases a7 g e with e2|e2
  ·have hg:=a0.rowO g e2
   exact⟨.inr e,hg.2.1,hg.2.2⟩
  ·refine⟨.inr e,by omega,fun e3=> ?_,fun e3=> ?_,fun p hp e3=> ?_⟩
   ·have:=hP.lt _ (hP.rowO _ e3).1;omega
   ·have:=hP.lt _ (hP.crowO _ e3).1;omega
   ·have:=hP.lt _ (hP.blk p hp).1;omega
structure Ap (wr w' :World)(v v' :Value):Prop where
 os:w'.os=wr.os
 tape:w'.tape=wr.tape
 output:w'.output=wr.output
 size:wr.heap.size≤w'.heap.size
 blk:∀k,k<wr.heap.size→v.ownBlock≠some k→w'.heap[k]? =wr.heap[k]?
 lies:∀g,v'.ownBlock=some g→v.ownBlock=some g∨wr.heap.size≤g
 moved:∀g,g<wr.heap.size→v'.ownBlock≠some g→w'.heap[g]? =wr.heap[g]?
theorem Ap.of {wr w' :World}{v v' :Value}{o:Obj}(h:(v'.ownBlock=v.ownBlock∧(wr.alloc o).grownBy w' v.ownBlock)∨(v'.ownBlock=some (wr.heap.size+1)∧(wr.alloc o).grownBy w' none)):Ap wr w' v v' :=by
 rcases h with⟨h1,h2⟩|⟨h1,h2⟩
 ·have hb:∀k,k<wr.heap.size→v.ownBlock≠some k→w'.heap[k]? =wr.heap[k]? :=fun k hk a0=>by
   rw[h2.block k (by simp;omega) (fun e=>a0 e.symm)];exact heap_alloc_old wr o hk
  exact⟨h2.os,h2.tape,h2.output,by have:=h2.size;simp at this;omega,hb,fun g e=> .inl (by rw[←h1];exact e),fun g hg a0=>hb g hg (by rw[←h1];exact a0)⟩
 ·have hb:∀k,k<wr.heap.size→w'.heap[k]? =wr.heap[k]? :=fun k hk=>by
   rw[h2.block k (by simp;omega) (by simp)];exact heap_alloc_old wr o hk
  exact⟨h2.os,h2.tape,h2.output,by have:=h2.size;simp at this;omega,fun k hk _=>hb k hk,fun g e=> .inr (by rw[h1]at e;injection e with e;omega),fun g hg _=>hb g hg⟩
theorem ZK {w w' :World}{base:Nat}{e:TypeId}{size:Nat}{v:Value}{n:Nat}{xs:List Value}(h:w.ownsRow base e size v n xs)(hb:∀g,v.ownBlock=some g→w'.heap[g]? =w.heap[g]?):w'.ownsRow base e size v n xs:=by
 obtain⟨h1,h2⟩:=h;refine⟨h1,?_⟩;rcases h2 with h2|⟨g,cap,a0,rfl,hg,hh,r⟩
 ·exact .inl h2
 ·exact .inr ⟨g,cap,a0,rfl,hg,by rw[hb g rfl];exact hh,r⟩
def VL (wr:World)(H0:Nat)(nv tv lv:Value)(n:Nat)(m:Value)(v:Value):Prop:=
 ∃a k c,v= .slice a k c∧k≤c∧c≤maxLen∧(0<k→∃g,a=some ⟨g,0,none⟩∧H0≤g∧g<wr.heap.size∧nv.ownBlock≠some g∧tv.ownBlock≠some g∧(∀j,j<k→wr.cell? ⟨g,j,none⟩=some m)∧(lv.ownBlock=some g→k≤n))
structure KI (LT ET o1 o2:Nat)(w0 wr:World)(Wb:Nat)(nv0 tv0:Value)(nvals tvals:List Value)(m:Value)(last:Nat)(nv tv:Value)(vals:List Value)(t:Nat)(lv:Value)(n:Nat):Prop where
 kept:zj (fun b=>nv0.ownBlock=some b∨tv0.ownBlock=some b∨b=Wb) w0 wr
 cs:∀o,o≠o1→o≠o2→o≠5→wr.cell? ⟨Wb,o,none⟩=w0.cell? ⟨Wb,o,none⟩
 c1:wr.cell? ⟨Wb,o1,none⟩=some nv
 c2:wr.cell? ⟨Wb,o2,none⟩=some tv
 c5:wr.cell? ⟨Wb,5,none⟩=some (.int .i64 (last:Int))
 fr:∀o,wr.frozen? ⟨Wb,o,none⟩=false
 nrow:wr.ownsRow 0 LT 1 nv (nvals.length+vals.length) (nvals++vals)
 trow:wr.ownsRow 0 ET 1 tv (tvals.length+t) (tvals++List.replicate t m)
 lrow:wr.ownsRow w0.heap.size ET 1 lv n (List.replicate n m)
 nl:∀g,nv.ownBlock=some g→nv0.ownBlock=some g∨w0.heap.size≤g
 tl:∀g,tv.ownBlock=some g→tv0.ownBlock=some g∨w0.heap.size≤g
 nt:∀g,nv.ownBlock=some g→tv.ownBlock≠some g
 ln:∀g,lv.ownBlock=some g→nv.ownBlock≠some g∧tv.ownBlock≠some g
 vl:∀v∈vals,VL wr w0.heap.size nv tv lv n m v
 wb:Wb<w0.heap.size
 nW:nv0.ownBlock≠some Wb
 tW:tv0.ownBlock≠some Wb
 dis:o1≠o2∧o1≠5∧o2≠5
section
variable {LT ET o1 o2:Nat}{w0 wr w1:World}{Wb:Nat}{nv0 tv0:Value}{nvals tvals:List Value}{m:Value}{last:Nat}{nv tv:Value}{vals:List Value}{t:Nat}{lv:Value}{n:Nat}
theorem KI.nW' (h:KI LT ET o1 o2 w0 wr Wb nv0 tv0 nvals tvals m last nv tv vals t lv n):nv.ownBlock≠some Wb:=fun e=>by
 rcases h.nl _ e with e|e
 ·exact h.nW e
 ·have:=h.wb;omega
theorem KI.tW' (h:KI LT ET o1 o2 w0 wr Wb nv0 tv0 nvals tvals m last nv tv vals t lv n):tv.ownBlock≠some Wb:=fun e=>by
 rcases h.tl _ e with e|e
 ·exact h.tW e
 ·have:=h.wb;omega
theorem KI.more (h:KI LT ET o1 o2 w0 wr Wb nv0 tv0 nvals tvals m last nv tv vals t lv n){a0 :Value}(ha:Ap wr w1 lv a0)(hl:w1.ownsRow w0.heap.size ET 1 a0 (n+1) (List.replicate (n+1) m)):KI LT ET o1 o2 w0 w1 Wb nv0 tv0 nvals tvals m last nv tv vals t a0 (n+1):=by
 have hd:=h.dis;have a7:=h.kept.size;have a3:∀g,lv.ownBlock=some g→w0.heap.size≤g∧g<wr.heap.size:=h.lrow.lt
 have hW:w1.heap[Wb]? =wr.heap[Wb]? :=ha.blk Wb (by have:=h.wb;omega) (fun e=>by have:=(a3 _ e).1;have:=h.wb;omega);have cl:∀o,w1.cell? ⟨Wb,o,none⟩=wr.cell? ⟨Wb,o,none⟩:=fun o=>World.cell?_of_block (a:=⟨Wb,o,none⟩) hW
 refine⟨⟨ha.os.trans h.kept.os,ha.tape.trans h.kept.tape,ha.output.trans h.kept.output,j0f a7 ha.size,fun k hk hn=> ?_⟩,fun o h1 h2 h5=>by rw[cl];exact h.cs o h1 h2 h5,by rw[cl];exact h.c1,by rw[cl];exact h.c2,by rw[cl];exact h.c5,fun o=>by rw[World.frozen?_of_block (a:=⟨Wb,o,none⟩) hW];exact h.fr o,
  ZK h.nrow (fun g e=>ha.blk g (h.nrow.lt g e).2 (fun e2=>(h.ln g e2).1 e)),ZK h.trow (fun g e=>ha.blk g (h.trow.lt g e).2 (fun e2=>(h.ln g e2).2 e)),hl,h.nl,h.tl,h.nt,fun g e=> ?_,fun v hv=> ?_,h.wb,h.nW,h.tW,h.dis⟩
 ·rw[ha.blk k (by omega) (fun e=>by have:=(a3 _ e).1;omega)];exact h.kept.block k hk hn
 ·rcases ha.lies g e with e|e
  ·exact h.ln g e
  ·exact⟨fun e2=>by have:=(h.nrow.lt g e2).2;omega,fun e2=>by have:=(h.trow.lt g e2).2;omega⟩
 ·obtain⟨a,k,c,rfl,h1,h2,h3⟩:=h.vl v hv
  refine⟨a,k,c,rfl,h1,h2,fun hk=> ?_⟩;obtain⟨g,rfl,a4,a1,a5,a6,hc,a2⟩:=h3 hk;refine⟨g,rfl,a4,j0b a1 ha.size,a5,a6,fun j hj=> ?_,fun e=> ?_⟩
  ·by_cases e:a0.ownBlock=some g
   ·have a8:k≤n:=by
     rcases ha.lies g e with e|e
     ·exact a2 e
     ·omega
    have:=hl.cells e j m (by rw[List.getElem?_replicate,if_pos (by omega)]);rwa[yH,Nat.zero_add]at this
   ·rw[World.cell?_of_block (a:=⟨g,j,none⟩) (ha.moved g a1 e)];exact hc j hj
  ·rcases ha.lies g e with e|e
   ·have:=a2 e;omega
   ·omega
theorem KI.name (h:KI LT ET o1 o2 w0 wr Wb nv0 tv0 nvals tvals m last nv tv vals t lv n){a0 :Value}(ha:Ap wr w1 nv a0)(hn:w1.ownsRow 0 LT 1 a0 (nvals.length+vals.length+1) (nvals++vals++ [lv])):KI LT ET o1 o2 w0 (w1.setCell ⟨Wb,o1,none⟩ a0) Wb nv0 tv0 nvals tvals m last a0 tv (vals++ [lv]) t lv n:=by
 have hd:=h.dis;have b6:=h.kept.size;have b7:=h.wb;have hW:w1.heap[Wb]? =wr.heap[Wb]? :=ha.blk Wb (by omega) h.nW';have cl:∀o,o≠o1→(w1.setCell ⟨Wb,o1,none⟩ a0).cell? ⟨Wb,o,none⟩=wr.cell? ⟨Wb,o,none⟩:=fun o ho=>by
  rw[z9 _ _ _ _ _ ho];exact World.cell?_of_block (a:=⟨Wb,o,none⟩) hW
 have a2:∀g,g≠Wb→(w1.setCell ⟨Wb,o1,none⟩ a0).heap[g]? =w1.heap[g]? :=fun g hg=>Below.heap_setCell _ _ _ _ hg
 have b3:(w1.setCell ⟨Wb,o1,none⟩ a0).heap.size=w1.heap.size:=by simp[World.setCell]
 have a8:∀g,lv.ownBlock=some g→w0.heap.size≤g∧g<wr.heap.size:=h.lrow.lt
 have a4 :∀g,a0.ownBlock=some g→nv0.ownBlock=some g∨w0.heap.size≤g:=fun g e=>by
  rcases ha.lies g e with e|e
  ·exact h.nl g e
  ·exact .inr (by omega)
 have b1 :∀g,a0.ownBlock=some g→tv.ownBlock≠some g:=fun g e=>by
  rcases ha.lies g e with e|e
  ·exact h.nt g e
  ·exact fun e2=>by have:=(h.trow.lt g e2).2;omega
 have a3 :∀g,lv.ownBlock=some g→a0.ownBlock≠some g:=fun g e e2=>by
  rcases ha.lies g e2 with e3|e3
  ·exact(h.ln g e).1 e3
  ·have:=(a8 g e).2;omega
 have a9 :a0.ownBlock≠some Wb:=fun e=>by
  rcases a4 _ e with e|e
  ·exact h.nW e
  ·omega
 have a1:(w1.setCell ⟨Wb,o1,none⟩ a0).ownsRow w0.heap.size ET 1 lv n (List.replicate n m):=ZK h.lrow (fun g e=>by rw[a2 g (by have:=(a8 g e).1;omega)];exact ha.blk g (a8 g e).2 (h.ln g e).1);refine⟨⟨ha.os.trans h.kept.os,ha.tape.trans h.kept.tape,ha.output.trans h.kept.output,by rw[b3];exact j0f b6 ha.size,fun k hk b0=> ?_⟩,fun o h1 h2 h5=>by rw[cl o h1];exact h.cs o h1 h2 h5,?_,by rw[cl o2 (by omega)];exact h.c2,by rw[cl 5 (by omega)];exact h.c5,fun o=> ?_,
  ?_,ZK h.trow (fun g e=>by rw[a2 g (fun e2=>h.tW' (by rw[e,e2]))];exact ha.blk g (h.trow.lt g e).2 (fun e2=>h.nt g e2 e)),a1,a4,h.tl,b1,fun g e=>⟨a3 g e,(h.ln g e).2⟩,fun v hv=> ?_,h.wb,h.nW,h.tW,h.dis⟩
 ·rw[a2 k (fun e=>b0 (.inr (.inr e))),ha.blk k (by omega) (fun e=>by
   rcases h.nl k e with e|e
   ·exact b0 (.inl e)
   ·omega)]
  exact h.kept.block k hk b0
 ·exact zD _ _ _ _ nv (by rw[World.cell?_of_block (a:=⟨Wb,o1,none⟩) hW];exact h.c1)
 ·rw[World.frozen?_setCell,World.frozen?_of_block (a:=⟨Wb,o,none⟩) hW];exact h.fr o
 ·have e1:nvals.length+(vals++ [lv]).length=nvals.length+vals.length+1:=by simp;omega
  have e2:nvals++(vals++ [lv])=nvals++vals++ [lv]:=by simp
  rw[e1,e2];exact ZK hn (fun g e=>a2 g (fun e2=>a9 (by rw[e,e2])))
 ·rcases List.mem_append.1 hv with hv|hv
  ·obtain⟨a,k,c,rfl,h1,h2,h3⟩:=h.vl v hv
   refine⟨a,k,c,rfl,h1,h2,fun hk=> ?_⟩;obtain⟨g,rfl,a7,a6,b2,b4,hc,b5⟩:=h3 hk;refine⟨g,rfl,a7,by rw[b3];exact j0b a6 ha.size,fun e=> ?_,b4,fun j hj=> ?_,b5⟩
   ·rcases ha.lies g e with e|e
    ·exact b2 e
    ·omega
   ·rw[World.cell?_of_block (a:=⟨g,j,none⟩) ((a2 g (by omega)).trans (ha.blk g a6 b2))];exact hc j hj
  ·rw[List.mem_singleton]at hv
   subst hv;obtain⟨a,c,hv,h1,h2,h3,h4⟩:=za a1;refine⟨a,n,c,hv,h1,h2,fun hk=> ?_⟩
   cases a with
   |none=>have:=(h3 rfl).1;omega
   |some ad=>
    obtain⟨g,rfl,a7,a6,_,hc⟩:=h4 ad rfl;have a5:v.ownBlock=some g:=by rw[hv];rfl
    exact⟨g,rfl,a7,a6,a3 g a5,(h.ln g a5).2,fun j hj=>hc j m (by simp[hj]),fun _=>j0a _⟩
theorem KI.mark (h:KI LT ET o1 o2 w0 wr Wb nv0 tv0 nvals tvals m last nv tv vals t lv n){a0 :Value}(ha:Ap wr w1 tv a0)(hn:w1.ownsRow 0 ET 1 a0 (tvals.length+t+1) (tvals++List.replicate t m++ [m])):KI LT ET o1 o2 w0 (w1.setCell ⟨Wb,o2,none⟩ a0) Wb nv0 tv0 nvals tvals m last nv a0 vals (t+1) lv n:=by
 have hd:=h.dis;have b2:=h.kept.size;have b3:=h.wb;have hW:w1.heap[Wb]? =wr.heap[Wb]? :=ha.blk Wb (by omega) h.tW';have cl:∀o,o≠o2→(w1.setCell ⟨Wb,o2,none⟩ a0).cell? ⟨Wb,o,none⟩=wr.cell? ⟨Wb,o,none⟩:=fun o ho=>by
  rw[z9 _ _ _ _ _ ho];exact World.cell?_of_block (a:=⟨Wb,o,none⟩) hW
 have a1:∀g,g≠Wb→(w1.setCell ⟨Wb,o2,none⟩ a0).heap[g]? =w1.heap[g]? :=fun g hg=>Below.heap_setCell _ _ _ _ hg
 have a8:(w1.setCell ⟨Wb,o2,none⟩ a0).heap.size=w1.heap.size:=by simp[World.setCell]
 have a3:∀g,lv.ownBlock=some g→w0.heap.size≤g∧g<wr.heap.size:=h.lrow.lt
 have a2 :∀g,a0.ownBlock=some g→tv0.ownBlock=some g∨w0.heap.size≤g:=fun g e=>by
  rcases ha.lies g e with e|e
  ·exact h.tl g e
  ·exact .inr (by omega)
 have a5 :a0.ownBlock≠some Wb:=fun e=>by
  rcases a2 _ e with e|e
  ·exact h.tW e
  ·omega
 refine⟨⟨ha.os.trans h.kept.os,ha.tape.trans h.kept.tape,ha.output.trans h.kept.output,by rw[a8];exact j0f b2 ha.size,fun k hk a4=> ?_⟩,fun o h1 h2 h5=>by rw[cl o h2];exact h.cs o h1 h2 h5,by rw[cl o1 (by omega)];exact h.c1,?_,by rw[cl 5 (by omega)];exact h.c5,fun o=> ?_,
  ZK h.nrow (fun g e=>by rw[a1 g (fun e2=>h.nW' (by rw[e,e2]))];exact ha.blk g (h.nrow.lt g e).2 (h.nt g e)),?_,ZK h.lrow (fun g e=>by rw[a1 g (by have:=(a3 g e).1;omega)];exact ha.blk g (a3 g e).2 (h.ln g e).2),h.nl,a2,fun g e e2=> ?_,fun g e=>⟨(h.ln g e).1,fun e2=> ?_⟩,fun v hv=> ?_,h.wb,h.nW,h.tW,h.dis⟩
 ·rw[a1 k (fun e=>a4 (.inr (.inr e))),ha.blk k (by omega) (fun e=>by
   rcases h.tl k e with e|e
   ·exact a4 (.inr (.inl e))
   ·omega)]
  exact h.kept.block k hk a4
 ·exact zD _ _ _ _ tv (by rw[World.cell?_of_block (a:=⟨Wb,o2,none⟩) hW];exact h.c2)
 ·rw[World.frozen?_setCell,World.frozen?_of_block (a:=⟨Wb,o,none⟩) hW];exact h.fr o
 ·have e1:tvals.length+(t+1)=tvals.length+t+1:=by omega
  have e2:tvals++List.replicate (t+1) m=tvals++List.replicate t m++ [m]:=by rw[List.replicate_succ',List.append_assoc]
  rw[e1,e2];exact ZK hn (fun g e=>a1 g (fun e2=>a5 (by rw[e,e2])))
 ·rcases ha.lies g e2 with e3|e3
  ·exact h.nt g e e3
  ·have:=(h.nrow.lt g e).2;omega
 ·rcases ha.lies g e2 with e3|e3
  ·exact(h.ln g e).2 e3
  ·have:=(a3 g e).2;omega
 ·obtain⟨a,k,c,rfl,h1,h2,h3⟩:=h.vl v hv
  refine⟨a,k,c,rfl,h1,h2,fun hk=> ?_⟩;obtain⟨g,rfl,a9,a6,b0,a7,hc,b1⟩:=h3 hk;refine⟨g,rfl,a9,by rw[a8];exact j0b a6 ha.size,b0,fun e=> ?_,fun j hj=> ?_,b1⟩
  ·rcases ha.lies g e with e|e
   ·exact a7 e
   ·omega
  ·rw[World.cell?_of_block (a:=⟨g,j,none⟩) ((a1 g (by omega)).trans (ha.blk g a6 a7))];exact hc j hj
end
theorem KI.forms {LT ET o1 o2:Nat}{w0 wr:World}{Wb:Nat}{nv0 tv0:Value}{nvals tvals:List Value}{m:Value}{last:Nat}{nv tv:Value}{vals:List Value}{t:Nat}{lv:Value}{n:Nat}(h:KI LT ET o1 o2 w0 wr Wb nv0 tv0 nvals tvals m last nv tv vals t lv n)(hb:nvals.length+vals.length≤200000000)(hc:tvals.length+t≤200000000):
  ∃na nc ta tc N T XN XT,Hid (N=nvals.length+vals.length)∧Hid (T=tvals.length+t)∧N≤200000000∧T≤200000000∧Hid (nv= .slice na N nc)∧Hid (tv= .slice ta T tc)∧wr.cell? ⟨Wb,o1,none⟩=some (.slice na N nc)∧wr.cell? ⟨Wb,o2,none⟩=some (.slice ta T tc)∧wr.frozen? ⟨Wb,o1,none⟩=false∧wr.frozen? ⟨Wb,o2,none⟩=false∧
   Hid (XN=nvals++vals)∧Hid (XT=tvals++List.replicate t m)∧wr.ownsRow 0 LT 1 (.slice na N nc) N XN∧wr.ownsRow 0 ET 1 (.slice ta T tc) T XT:=by
 obtain⟨na,nc,a0,_⟩:=za h.nrow;obtain⟨ta,tc,a1,_⟩:=za h.trow;exact⟨na,nc,ta,tc,_,_,_,_,(rfl:_=_),(rfl:_=_),hb,hc,a0,a1,by rw[←a0];exact h.c1,by rw[←a1];exact h.c2,h.fr o1,h.fr o2,(rfl:_=_),(rfl:_=_),by rw[←a0];exact h.nrow,by rw[←a1];exact h.trow⟩
theorem KI.fin {w0 wr:World}{M O:Nat→Prop}{Wb:Nat}{av:Value}{ps:List (Nat×Nat)}{nv0 tv0 uv kv:Value}{names:List (Value×List UInt8)}{a2:List (Value×Int)}{a1 last:Nat}{m:List UInt8}{nv tv:Value}{vals:List Value}{lv:Value}{n:Nat}
  (hl:LWx w0 M O Wb av ps nv0 tv0 uv kv names a2 a1)(hM:∀b,M b→b<w0.heap.size)(h:KI 45 9 1 2 w0 wr Wb nv0 tv0 (names.map (·.1)) (names.map fun p=>S p.2) (S m) last nv tv vals vals.length lv n):
  LWx wr (fun b=>M b∨(O b∨nv.ownBlock=some b∨tv.ownBlock=some b)) (fun b=>O b∨nv.ownBlock=some b∨tv.ownBlock=some b) Wb av ps nv tv uv kv (names++vals.map fun v=>(v,m)) a2 last∧zj O w0 wr∧(∀b,(O b∨nv.ownBlock=some b∨tv.ownBlock=some b)→O b∨w0.heap.size≤b):=by
 have a7:∀b,(nv0.ownBlock=some b∨tv0.ownBlock=some b∨b=Wb)→O b:=by
  rintro b (e|e|rfl)
  ·exact(hl.nO b e).1
  ·exact(hl.tO b e).1
  ·exact hl.own
 have a6:∀b,(nv0.ownBlock=some b∨tv0.ownBlock=some b∨b=Wb)→M b:=fun b e=>hl.sub b (a7 b e)
 have b2:=h.kept.size;have a5:∀b,(O b∨nv.ownBlock=some b∨tv.ownBlock=some b)→O b∨w0.heap.size≤b:=by
  rintro b (e|e|e)
  ·exact .inl e
  ·rcases h.nl b e with e|e
   ·exact .inl (hl.nO b e).1
   ·exact .inr e
  ·rcases h.tl b e with e|e
   ·exact .inl (hl.tO b e).1
   ·exact .inr e
 have a4:∀b,(M b∨(O b∨nv.ownBlock=some b∨tv.ownBlock=some b))→M b∨w0.heap.size≤b:=fun b e=>by
  rcases e with e|e
  ·exact .inl e
  ·rcases a5 b e with e|e
   ·exact .inl (hl.sub b e)
   ·exact .inr e
 have keep:∀{e:TypeId} {size:Nat} {v:Value} {k:Nat} {xs:List Value},w0.ownsRow 0 e size v k xs→(∀g,v.ownBlock=some g→g≠Wb∧nv0.ownBlock≠some g∧tv0.ownBlock≠some g)→wr.ownsRow 0 e size v k xs:=fun ho hg=>zh ho h.kept (fun g e e2=>by
  rcases e2 with e2|e2|e2
  ·exact(hg g e).2.1 e2
  ·exact(hg g e).2.2 e2
  ·exact(hg g e).1 e2)
 have a3:∀g,O g→nv0.ownBlock≠some g→nv.ownBlock≠some g:=fun g h1 h2 e=>by
  rcases h.nl g e with e|e
  ·exact h2 e
  ·have:=hl.lt g h1;omega
 have a0:∀g,O g→tv0.ownBlock≠some g→tv.ownBlock≠some g:=fun g h1 h2 e=>by
  rcases h.tl g e with e|e
  ·exact h2 e
  ·have:=hl.lt g h1;omega
 have n1:(names++vals.map fun v=>(v,m)).length=(names.map (·.1)).length+vals.length:=by simp
 have n2:(names++vals.map fun v=>(v,m)).map (·.1)=names.map (·.1)++vals:=by simp[List.map_map,Function.comp_def]
 have n3:(names++vals.map fun v=>(v,m)).length=(names.map fun p=>S p.2).length+vals.length:=by simp
 have n4:(names++vals.map fun v=>(v,m)).map (fun p=>S p.2)=(names.map fun p=>S p.2)++List.replicate vals.length (S m):=by
  rw[List.map_append,List.map_map];congr 1;exact List.eq_replicate_iff.2 ⟨by simp,by intro b hb;obtain⟨v,_,rfl⟩:=List.mem_map.1 hb;rfl⟩
 refine⟨⟨fun b e=> .inr e,fun b e=> ?_,.inl hl.own,by rw[h.cs 0 (by omega) (by omega) (by omega)];exact hl.c0,h.c1,h.c2,by rw[h.cs 3 (by omega) (by omega) (by omega)];exact hl.c3,by rw[h.cs 4 (by omega) (by omega) (by omega)];exact hl.c4,h.c5,h.fr,
  keep hl.arow (fun g e=>⟨(hl.aO g e).2.1,(hl.aO g e).2.2.1,(hl.aO g e).2.2.2.1⟩),?_,?_,keep hl.urow (fun g e=>⟨(hl.uO g e).2.1,(hl.uO g e).2.2.1,(hl.uO g e).2.2.2⟩),keep hl.krow (fun g e=>⟨(hl.kO g e).2.1,(hl.kO g e).2.2.1,(hl.kO g e).2.2.2.1⟩),
  fun g e=>⟨.inr (.inl e),fun e2=>h.nW' (by rw[e,e2])⟩,fun g e=>⟨.inr (.inr e),fun e2=>h.tW' (by rw[e,e2]),fun e2=>h.nt g e2 e⟩,
  fun g e=>⟨.inl (hl.uO g e).1,(hl.uO g e).2.1,a3 g (hl.uO g e).1 (hl.uO g e).2.2.1,a0 g (hl.uO g e).1 (hl.uO g e).2.2.2⟩,
  fun g e=>⟨.inl (hl.kO g e).1,(hl.kO g e).2.1,a3 g (hl.kO g e).1 (hl.kO g e).2.2.1,a0 g (hl.kO g e).1 (hl.kO g e).2.2.2.1,(hl.kO g e).2.2.2.2⟩,
  fun g e=>⟨.inl (hl.aO g e).1,(hl.aO g e).2.1,a3 g (hl.aO g e).1 (hl.aO g e).2.2.1,a0 g (hl.aO g e).1 (hl.aO g e).2.2.2.1,(hl.aO g e).2.2.2.2.1,(hl.aO g e).2.2.2.2.2⟩,fun p hp=> ?_,fun p hp=> ?_⟩,h.kept.mono a7,a5⟩
 ·rcases e with e|e|e
  ·have:=hl.lt b e;omega
  ·exact(h.nrow.lt b e).2
  ·exact(h.trow.lt b e).2
 ·rw[n1,n2];exact h.nrow
 ·rw[n3,n4];exact h.trow
 ·rcases List.mem_append.1 hp with hp|hp
  ·obtain⟨k,hr⟩:=hl.nl p hp;exact⟨k,hr.step h.kept a6 a4⟩
  ·obtain⟨v,hv,rfl⟩:=List.mem_map.1 hp
   obtain⟨a,k,c,rfl,h1,h2,h3⟩:=h.vl v hv;refine⟨k,a,c,rfl,h1,h2,fun hk=> ?_⟩;obtain⟨g,rfl,b1,a8,a9,b0,hc,_⟩:=h3 hk;refine⟨g,0,rfl,a8,fun e=> ?_,fun j u hu=> ?_⟩
   ·rcases e with e|e|e|e
    ·have:=hM g e;omega
    ·have:=hl.lt g e;omega
    ·exact a9 e
    ·exact b0 e
   ·rw[List.getElem?_replicate]at hu
    split at hu
    ·rename_i hj
     injection hu with hu;subst hu
     rw[Nat.zero_add];exact hc j hj
    ·cases hu
 ·obtain⟨k,hr⟩:=hl.ul p hp;exact⟨k,hr.step h.kept a6 a4⟩
def Ym (w w' :World)(M O:Nat→Prop)(B:Nat)(st' :R.St)(bv cv:Value)(LB:List BrP)(LCm:List (R.Cm×Value×Value)):Prop:=∃O',PSx w' (fun b=>M b∨O' b) O' B st' bv cv LB LCm∧zj O w w' ∧(∀b,O' b→O b∨w.heap.size≤b)
theorem Ym.trans {w w1 w2:World}{M O O1:Nat→Prop}{B:Nat}{st:R.St}{bv cv:Value}{LB:List BrP}{a1:List (R.Cm×Value×Value)}(hk:zj O w w1)(hO:∀b,O1 b→O b∨w.heap.size≤b)(h:Ym w1 w2 (fun b=>M b∨O1 b) O1 B st bv cv LB a1):Ym w w2 M O B st bv cv LB a1:=by
 obtain⟨O2,hp,a0,h2⟩:=h;refine⟨O2,hp.kept (zj.refl (fun _=>False) _) (fun _ e=>e.elim) (fun b e=> ?_) (fun b e=> .inr e),⟨a0.os.trans hk.os,a0.tape.trans hk.tape,a0.output.trans hk.output,j0f hk.size a0.size,fun k a2 hn=> ?_⟩,fun b e=> ?_⟩
 ·rcases e with e|e
  ·exact .inl (.inl (.inl e))
  ·exact .inl (.inr e)
 ·rw[a0.block k (j0b a2 hk.size) (fun e=>by rcases hO k e with e|e;exact hn e;omega)]
  exact hk.block k a2 hn
 ·rcases h2 b e with e|e
  ·exact hO b e
  ·exact .inr (j0f hk.size e)
theorem oC {w w5:World}{M O:Nat→Prop}{B:Nat}{st:R.St}{bv cv pv:Value}{LB:List BrP}{a9:List (R.Cm×Value×Value)}(hP:PSx w M O B st bv cv LB a9)(a0:Jf w O B st.packed bv cv LB pv){v3:Value}{pk:List UInt8}(hK:zj (fun b=>pv.ownBlock=some b) w w5)
  (a4:w5.ownsRow 0 5 1 v3 pk.length (Lib.byteCells pk))(a7:∀g,v3.ownBlock=some g→pv.ownBlock=some g∨w.heap.size≤g):
  Ym w (w5.setCell ⟨B,2,none⟩ v3) M O B {st with packed:=pk} bv cv LB a9:=by
 have hB:=hP.lt B hP.own;have a2:pv.ownBlock≠some B:=fun e=>(a0.rowO B e).2.1 rfl
 have a1:zj (fun b=>pv.ownBlock=some b∨b=B) w (w5.setCell ⟨B,2,none⟩ v3):=(hK.mono (fun b e=> .inl e)).setCell (p:=⟨B,2,none⟩) (.inl (.inr rfl)) v3;have a3:zj (fun b=>b=B) w5 (w5.setCell ⟨B,2,none⟩ v3):=(zj.refl (fun b=>b=B) w5).setCell (p:=⟨B,2,none⟩) (.inl rfl) v3;have a6:∀b,(pv.ownBlock=some b∨b=B)→M b:=by
  rintro b (e|rfl)
  ·exact hP.sub b (a0.rowO b e).1
  ·exact hP.sub _ hP.own
 have a8:v3.ownBlock≠some B:=fun e=>by
  rcases a7 B e with e|e
  ·exact a2 e
  ·omega
 have b0 :∀b,(O b∨v3.ownBlock=some b)→O b∨w.heap.size≤b:=fun b e=>by
  rcases e with e|e
  ·exact .inl e
  ·rcases a7 b e with e|e
   ·exact .inl (a0.rowO b e).1
   ·exact .inr e
 have a5:∀b,(M b∨(O b∨v3.ownBlock=some b))→M b∨w.heap.size≤b:=fun b e=>by
  rcases e with e|e
  ·exact .inl e
  ·rcases b0 b e with e|e
   ·exact .inl (hP.sub b e)
   ·exact .inr e
 have b1:w.heap.size≤w5.heap.size:=hK.size;refine⟨fun b=>O b∨v3.ownBlock=some b,⟨fun b e=> .inr e,fun b e=> ?_,.inl hP.own,?_,?_,fun o=> ?_,hP.brs,?_,fun g e=>⟨.inl (hP.rowO g e).1,(hP.rowO g e).2⟩,?_,fun p hp=>⟨.inl (hP.blk p hp).1,(hP.blk p hp).2⟩,hP.dist,hP.cms,?_,fun g e=>⟨.inl (hP.crowO g e).1,(hP.crowO g e).2⟩,?_,?_,v3,?_,?_,?_⟩,a1.mono (fun b e=>by
  rcases e with e|rfl
  ·exact(a0.rowO b e).1
  ·exact hP.own),b0⟩
 ·have:b<w5.heap.size:=by
   rcases e with e|e
   ·have:=hP.lt b e;omega
   ·exact(a4.lt b e).2
  exact j0b this a3.size
 ·rw[z9 _ _ _ _ _ (by omega),hK.cell (p:=⟨B,0,none⟩) hB a2];exact hP.c0
 ·rw[z9 _ _ _ _ _ (by omega),hK.cell (p:=⟨B,1,none⟩) hB a2];exact hP.c1
 ·rw[World.frozen?_setCell,hK.frozen (p:=⟨B,o,none⟩) hB a2];exact hP.fr o
 ·exact zh hP.row a1 (fun g e e2=>by
   rcases e2 with e2|e2
   ·exact(a0.rowO g e2).2.2.1 e
   ·exact(hP.rowO g e).2 e2)
 ·exact fun p hp=>(hP.at_ p hp).kept a1 (hP.lt _ (hP.blk p hp).1) (fun e=>by
   rcases e with e|e
   ·exact(a0.rowO _ e).2.2.2.2 p hp rfl
   ·exact(hP.blk p hp).2.1 e) a6 a5
 ·exact zh hP.crow a1 (fun g e e2=>by
   rcases e2 with e2|e2
   ·exact(a0.rowO g e2).2.2.2.1 e
   ·exact(hP.crowO g e).2.1 e2)
 ·exact fun p hp=>(hP.ctree p hp).step a1 a6 a5
 ·exact fun p hp=>(hP.cpar p hp).step a1 a6 a5
 ·exact zD _ _ _ _ pv (by rw[hK.cell (p:=⟨B,2,none⟩) hB a2];exact a0.c2)
 ·exact zh a4 a3 (fun g e e2=>a8 (by rw[e,e2]))
 ·intro g e
  rcases a7 g e with e2|e2
  ·have hg:=a0.rowO g e2
   exact⟨.inr e,hg.2.1,hg.2.2⟩
  ·refine⟨.inr e,by omega,fun e3=> ?_,fun e3=> ?_,fun p hp e3=> ?_⟩
   ·have:=hP.lt _ (hP.rowO _ e3).1;omega
   ·have:=hP.lt _ (hP.crowO _ e3).1;omega
   ·have:=hP.lt _ (hP.blk p hp).1;omega
def vr (m:Int):Value:= .int .i64 m
theorem KI.finN {w0 wr:World}{M O:Nat→Prop}{Wb:Nat}{av:Value}{ps:List (Nat×Nat)}{nv tv a3 a2:Value}{names:List (Value×List UInt8)}{a0:List (Value×Int)}{a4 last:Nat}{m:Int}{uv kv:Value}{vals:List Value}{lv:Value}{n:Nat}
  (hl:LWx w0 M O Wb av ps nv tv a3 a2 names a0 a4)(hM:∀b,M b→b<w0.heap.size)(h:KI 39 3 3 4 w0 wr Wb a3 a2 (a0.map (·.1)) (a0.map fun p=>vr p.2) (vr m) last uv kv vals vals.length lv n):
  LWx wr (fun b=>M b∨(O b∨uv.ownBlock=some b∨kv.ownBlock=some b)) (fun b=>O b∨uv.ownBlock=some b∨kv.ownBlock=some b) Wb av ps nv tv uv kv names (a0++vals.map fun v=>(v,m)) last∧zj O w0 wr∧(∀b,(O b∨uv.ownBlock=some b∨kv.ownBlock=some b)→O b∨w0.heap.size≤b):=by
 have a9:∀b,(a3.ownBlock=some b∨a2.ownBlock=some b∨b=Wb)→O b:=by
  rintro b (e|e|rfl)
  ·exact(hl.uO b e).1
  ·exact(hl.kO b e).1
  ·exact hl.own
 have a8:∀b,(a3.ownBlock=some b∨a2.ownBlock=some b∨b=Wb)→M b:=fun b e=>hl.sub b (a9 b e)
 have b4:=h.kept.size;have a7:∀b,(O b∨uv.ownBlock=some b∨kv.ownBlock=some b)→O b∨w0.heap.size≤b:=by
  rintro b (e|e|e)
  ·exact .inl e
  ·rcases h.nl b e with e|e
   ·exact .inl (hl.uO b e).1
   ·exact .inr e
  ·rcases h.tl b e with e|e
   ·exact .inl (hl.kO b e).1
   ·exact .inr e
 have a6:∀b,(M b∨(O b∨uv.ownBlock=some b∨kv.ownBlock=some b))→M b∨w0.heap.size≤b:=fun b e=>by
  rcases e with e|e
  ·exact .inl e
  ·rcases a7 b e with e|e
   ·exact .inl (hl.sub b e)
   ·exact .inr e
 have keep:∀{e:TypeId} {size:Nat} {v:Value} {k:Nat} {xs:List Value},w0.ownsRow 0 e size v k xs→(∀g,v.ownBlock=some g→g≠Wb∧a3.ownBlock≠some g∧a2.ownBlock≠some g)→wr.ownsRow 0 e size v k xs:=fun ho hg=>zh ho h.kept (fun g e e2=>by
  rcases e2 with e2|e2|e2
  ·exact(hg g e).2.1 e2
  ·exact(hg g e).2.2 e2
  ·exact(hg g e).1 e2)
 have a5:∀g,O g→a3.ownBlock≠some g→uv.ownBlock≠some g:=fun g h1 h2 e=>by
  rcases h.nl g e with e|e
  ·exact h2 e
  ·have:=hl.lt g h1;omega
 have a1:∀g,O g→a2.ownBlock≠some g→kv.ownBlock≠some g:=fun g h1 h2 e=>by
  rcases h.tl g e with e|e
  ·exact h2 e
  ·have:=hl.lt g h1;omega
 have n1:(a0++vals.map fun v=>(v,m)).length=(a0.map (·.1)).length+vals.length:=by simp
 have n2:(a0++vals.map fun v=>(v,m)).map (·.1)=a0.map (·.1)++vals:=by simp[List.map_map,Function.comp_def]
 have n3:(a0++vals.map fun v=>(v,m)).length=(a0.map fun p=>vr p.2).length+vals.length:=by simp
 have n4:(a0++vals.map fun v=>(v,m)).map (fun p=>Value.int .i64 p.2)=(a0.map fun p=>vr p.2)++List.replicate vals.length (vr m):=by
  rw[List.map_append,List.map_map];congr 1;exact List.eq_replicate_iff.2 ⟨by simp,by intro b hb;obtain⟨v,_,rfl⟩:=List.mem_map.1 hb;rfl⟩
 refine⟨⟨fun b e=> .inr e,fun b e=> ?_,.inl hl.own,by rw[h.cs 0 (by omega) (by omega) (by omega)];exact hl.c0,by rw[h.cs 1 (by omega) (by omega) (by omega)];exact hl.c1,by rw[h.cs 2 (by omega) (by omega) (by omega)];exact hl.c2,h.c1,h.c2,h.c5,h.fr,
  keep hl.arow (fun g e=>⟨(hl.aO g e).2.1,(hl.aO g e).2.2.2.2.1,(hl.aO g e).2.2.2.2.2⟩),keep hl.nrow (fun g e=>⟨(hl.nO g e).2,fun e2=>(hl.uO g e2).2.2.1 e,fun e2=>(hl.kO g e2).2.2.1 e⟩),keep hl.trow (fun g e=>⟨(hl.tO g e).2.1,fun e2=>(hl.uO g e2).2.2.2 e,fun e2=>(hl.kO g e2).2.2.2.1 e⟩),?_,?_,
  fun g e=>⟨.inl (hl.nO g e).1,(hl.nO g e).2⟩,fun g e=>⟨.inl (hl.tO g e).1,(hl.tO g e).2.1,(hl.tO g e).2.2⟩,
  fun g e=>⟨.inr (.inl e),fun e2=>h.nW' (by rw[e,e2]),fun e2=>a5 g (hl.nO g e2).1 (fun e3=>(hl.uO g e3).2.2.1 e2) e,fun e2=>a5 g (hl.tO g e2).1 (fun e3=>(hl.uO g e3).2.2.2 e2) e⟩,
  fun g e=>⟨.inr (.inr e),fun e2=>h.tW' (by rw[e,e2]),fun e2=>a1 g (hl.nO g e2).1 (fun e3=>(hl.kO g e3).2.2.1 e2) e,fun e2=>a1 g (hl.tO g e2).1 (fun e3=>(hl.kO g e3).2.2.2.1 e2) e,fun e2=>h.nt g e2 e⟩,
  fun g e=>⟨.inl (hl.aO g e).1,(hl.aO g e).2.1,(hl.aO g e).2.2.1,(hl.aO g e).2.2.2.1,a5 g (hl.aO g e).1 (hl.aO g e).2.2.2.2.1,a1 g (hl.aO g e).1 (hl.aO g e).2.2.2.2.2⟩,fun p hp=> ?_,fun p hp=> ?_⟩,h.kept.mono a9,a7⟩
 ·rcases e with e|e|e
  ·have:=hl.lt b e;omega
  ·exact(h.nrow.lt b e).2
  ·exact(h.trow.lt b e).2
 ·rw[n1,n2];exact h.nrow
 ·rw[n3,n4];exact h.trow
 ·obtain⟨k,hr⟩:=hl.nl p hp;exact⟨k,hr.step h.kept a8 a6⟩
 ·rcases List.mem_append.1 hp with hp|hp
  ·obtain⟨k,hr⟩:=hl.ul p hp;exact⟨k,hr.step h.kept a8 a6⟩
  ·obtain⟨v,hv,rfl⟩:=List.mem_map.1 hp
   obtain⟨a,k,c,rfl,h1,h2,h3⟩:=h.vl v hv;refine⟨k,a,c,rfl,h1,h2,fun hk=> ?_⟩;obtain⟨g,rfl,b3,b0,b1,b2,hc,_⟩:=h3 hk;refine⟨g,0,rfl,b0,fun e=> ?_,fun j u hu=> ?_⟩
   ·rcases e with e|e|e|e
    ·have:=hM g e;omega
    ·have:=hl.lt g e;omega
    ·exact b1 e
    ·exact b2 e
   ·rw[List.getElem?_replicate]at hu
    split at hu
    ·rename_i hj
     injection hu with hu;subst hu
     rw[Nat.zero_add];exact hc j hj
    ·cases hu
