import Derived.Test.YtolgebdmffcemaaGreatDoorQ12
import Derived.Deep.QuietTactic
import Derived.BigQuiet
import Derived.WalkSmall
import Derived.Lib.ItoaLen
import Derived.Lib.ItoaMem
import Derived.Deep.RegionWith
import Derived.Deep.RegionHeld3
set_option linter.all false
set_option maxHeartbeats 20000000
set_option maxRecDepth 1000000
open ByteArray renaming mk→rS
open Go.Lib renaming decDigits→nS,byteCells→rV
open UInt8 renaming ofNat→mA
open List renaming find?_eq_none→pI,any_eq_false→nB,take_append_drop→mH,length_cons→mC,length_set→rT,mem_append→nJ,mem_singleton→iE,length_append→mB,replicate→rU,length_take→nP,length_drop→nQ,map_take→rX,map_drop→rY,map_set→rZ,getElem_map→sA
open Go.World renaming frozen?_setCell→rW
namespace Go.Proofs.YtolgebdmffcemaaGreatDoor
open Go.RowKit
def dr (s:List UInt8)(k q:Nat)(ps:List (List UInt8)):Prop:=q≤k∧(∀c∈(s.drop q).take (k-q),c≠47)∧R.spl s=ps++R.spl (s.drop q)
theorem de (s:List UInt8)(k:Nat)(_h:k<s.length)(hb:k<({data:=s.toArray}:ByteArray).size):(({data:=s.toArray}:ByteArray)[k]'hb)=s[k]:=by
 show(s.toArray)[k]=_;simp
theorem jF (x y:List UInt8):(rS x.toArray++rS y.toArray)=rS (x++y).toArray:=ByteArray.mk_append_mk x y
theorem OD (m:Nat)(h:9<m):nS m=nS (m/10)++ [mA (48+m % 10)]:=by
 conv=>lhs;unfold nS
 rw[dif_neg (by omega)]
theorem Jc (m:Nat)(h:¬9<m):nS m=[mA (48+m)]:=by
 unfold nS;rw[dif_pos (by omega)]


theorem find_none {t:List R.Leaf}{p:List UInt8}{k:Nat}(h:¬k<t.length)(ha:((t.take k).any fun x=>x.path==p)=false):R.at_ t p=R.none p:=by
 have:=R.any_end t _ k h ha;unfold R.at_;rw[pI.2 (by intro x hx;have:=nB.1 this x hx;simpa using this)];rfl
theorem cQ {t:List R.Leaf}{p:List UInt8}{k:Nat}(h:k<t.length)(ha:((t.take k).any fun x=>x.path==p)=false)(hp:(t[k].path==p)=true):R.at_ t p=t[k]:=by
 unfold R.at_;have e:t.find? (fun x=>x.path==p)=some t[k]:=by
  conv=>lhs;rw[←mH k t,List.find?_append,pI.2 (by intro x hx;have:=nB.1 ha x hx;simpa using this),List.drop_eq_getElem_cons h,List.find?_cons_of_pos (by simpa using hp)]
  rfl
 rw[e];rfl
theorem cf (l:List UInt8)(a:Array UInt8)(h:a.toList=l):({data:=a}:ByteArray)=⟨l.toArray⟩:=by subst h;simp
theorem j8 (x:R.Leaf)(hg:R.Good x):(R.written x).length≤200000:=by
 obtain⟨_,g1,g2,g3,g4,g5⟩:=hg;have g6:=R.joinI_length _ g5;have a0:=Lib.itoa_length_le x.n (by omega) (by omega);unfold R.written;split
 ·simp only[mC];omega
 ·split<;>simp only[mC]<;>omega


theorem jl (n:Nat):((mA n).toNat:Int)=(n:Int) % 256:=by simp

theorem zL (w:World)(B i j:Nat)(v:Value)(h:j≠i):(w.setCell ⟨B,i,none⟩ v).cell? ⟨B,j,none⟩=w.cell? ⟨B,j,none⟩:=
 World.cell?_setCell_other (w:=w) (a:=⟨B,i,none⟩) (b:=⟨B,j,none⟩) (v:=v) (fun e=>h (by injection e with _ e _;exact e.symm))
theorem Ya (w:World)(B i:Nat)(v u:Value)(h:w.cell? ⟨B,i,none⟩=some u):(w.setCell ⟨B,i,none⟩ v).cell? ⟨B,i,none⟩=some v:=
 World.cell?_setCell_same (w:=w) (a:=⟨B,i,none⟩) (v:=v) h
theorem zq {O:Nat→Prop}{w w' :World}{base:Nat}{e:TypeId}{size:Nat}{v:Value}{n:Nat}{xs:List Value}(h:w.ownsRow base e size v n xs)(hk:ze O w w')(a1:∀g,v.ownBlock=some g→¬O g):w'.ownsRow base e size v n xs:=by
 obtain⟨h1,h2⟩:=h;refine⟨h1,?_⟩;rcases h2 with h2|⟨g,cap,a0,rfl,hg,hh,r⟩
 ·exact .inl h2
 ·exact .inr ⟨g,cap,a0,rfl,hg,by rw[hk.block g (Array.getElem?_eq_some_iff.1 hh).1 (a1 g rfl)];exact hh,r⟩
def dN (w w' :World)(M O:Nat→Prop)(B:Nat)(st' :R.St):Prop:=∃O',RS w' (fun b=>M b∨O' b) O' B st' ∧ze O w w' ∧(∀b,O' b→O b∨w.heap.size≤b)


theorem Xh {w:World}{base:Nat}{e:TypeId}{size:Nat}{g n cap:Nat}{xs:List Value}(h:w.ownsRow base e size (.slice (some ⟨g,0,none⟩) n cap) n xs)(j:Nat)(hj:j<xs.length)(u:Value):
  (w.setCell ⟨g,j,none⟩ u).ownsRow base e size (.slice (some ⟨g,0,none⟩) n cap) n (xs.set j u):=by
 obtain⟨h1,h2⟩:=h;refine⟨by rw[rT];exact h1,?_⟩;rcases h2 with⟨h2,_⟩|⟨g',a2,a1,hv,hg,hh,hn,a3,hs,ht⟩
 ·cases h2
 ·injection hv with ha _ a0
  injection ha with ha
  injection ha with ha _ _
  subst ha a0;refine .inr ⟨g,cap,a1.setIfInBounds j u,rfl,hg,heap_setCell_same w g j a1 e u hh,hn,a3,by simpa using hs,?_⟩;rw[←ht];have a4:j<n*size:=by omega
  rw[Array.toList_setIfInBounds,List.take_set]
def cX (l:List UInt8):Nat:=l.foldl (fun a c=>10*a+(c.toNat-48)) 0
theorem ux (l:List UInt8)(c:UInt8):cX (l++ [c])=10*cX l+(c.toNat-48):=by simp[cX,List.foldl_append]
theorem j6 (m:Nat)(h:m<10):(mA (48+m)).toNat=48+m:=by
 rw[UInt8.toNat_ofNat'];omega
theorem GK:∀(n:Nat),(∀c∈nS n,48≤c.toNat∧c.toNat≤57)∧cX (nS n)=n∧nS n≠ []:=by
 intro n;induction n using Nat.strongRecOn with
 |_ n ih=>
  by_cases h:9<n
  ·obtain⟨h1,h2,h3⟩:=ih (n/10) (by omega)
   rw[OD n h];refine⟨fun c hc=> ?_,?_,by simp⟩
   ·rcases nJ.1 hc with hc|hc
    ·exact h1 c hc
    ·rw[iE.1 hc,j6 _ (by omega)];omega
   ·rw[ux,h2,j6 _ (by omega)];omega
  ·rw[Jc n h]
   refine⟨fun c hc=> ?_,?_,by simp⟩
   ·rw[iE.1 hc,j6 _ (by omega)];omega
   ·rw[show [mA (48+n)]=[]++ [mA (48+n)]from rfl,ux,j6 _ (by omega)];simp[cX]
theorem UE:∀(k n:Nat),n<10^(k+1)→(nS n).length≤k+1
 |0,n,h=>by rw[Jc n (by omega)];simp
 |k+1,n,h=>by
  by_cases h9:9<n
  ·rw[OD n h9,mB]
   have:=UE k (n/10) (by rw[Nat.pow_succ]at h;omega);simp;omega
  ·rw[Jc n h9];simp
def BC (ps:List (Nat×Nat)):List Value:=ps.flatMap fun p=> [Value.pointer (some ⟨p.1,0,none⟩),.pointer (some ⟨p.2,0,none⟩)]
structure LWx (w:World)(M O:Nat→Prop)(Wb:Nat)(av:Value)(ps:List (Nat×Nat))(nv tv uv kv:Value)(names:List (Value×List UInt8))(nums:List (Value×Int))(last:Nat):Prop where
 sub:∀b,O b→M b
 lt:∀b,O b→b<w.heap.size
 own:O Wb
 c0:w.cell? ⟨Wb,0,none⟩=some av
 c1:w.cell? ⟨Wb,1,none⟩=some nv
 c2:w.cell? ⟨Wb,2,none⟩=some tv
 c3:w.cell? ⟨Wb,3,none⟩=some uv
 c4:w.cell? ⟨Wb,4,none⟩=some kv
 c5:w.cell? ⟨Wb,5,none⟩=some (.int .i64 (last:Int))
 fr:∀o,w.frozen? ⟨Wb,o,none⟩=false
 arow:w.ownsRow 0 85 2 av ps.length (BC ps)
 nrow:w.ownsRow 0 45 1 nv names.length (names.map (·.1))
 trow:w.ownsRow 0 9 1 tv names.length (names.map fun p=>S p.2)
 urow:w.ownsRow 0 39 1 uv nums.length (nums.map (·.1))
 krow:w.ownsRow 0 3 1 kv nums.length (nums.map fun p=> .int .i64 p.2)
 nO:∀g,nv.ownBlock=some g→O g∧g≠Wb
 tO:∀g,tv.ownBlock=some g→O g∧g≠Wb∧nv.ownBlock≠some g
 uO:∀g,uv.ownBlock=some g→O g∧g≠Wb∧nv.ownBlock≠some g∧tv.ownBlock≠some g
 kO:∀g,kv.ownBlock=some g→O g∧g≠Wb∧nv.ownBlock≠some g∧tv.ownBlock≠some g∧uv.ownBlock≠some g
 aO:∀g,av.ownBlock=some g→O g∧g≠Wb∧nv.ownBlock≠some g∧tv.ownBlock≠some g∧uv.ownBlock≠some g∧kv.ownBlock≠some g
 nl:∀p∈names,∃n,Rd w M p.1 n (rU n (S p.2))
 ul:∀p∈nums,∃n,Rd w M p.1 n (rU n (.int .i64 p.2))
abbrev BrP:=R.Br×Nat×Value
def xY (L:List BrP):List Value:=L.map fun p=>Value.pointer (some ⟨p.2.1,0,none⟩)
def YC (L:List (R.Cm×Value×Value)):List Value:=L.flatMap fun p=> [p.2.1,p.2.2]
structure kl (w:World)(M:Nat→Prop)(p:BrP):Prop where
 c0:w.cell? ⟨p.2.1,0,none⟩=some (.string ⟨p.1.name.toArray⟩)
 c1:w.cell? ⟨p.2.1,1,none⟩=some (.int .i64 (p.1.head:Int))
 c2:w.cell? ⟨p.2.1,2,none⟩=some p.2.2
 fr:∀o,w.frozen? ⟨p.2.1,o,none⟩=false
 work:PT w M p.2.2 p.1.work
structure UP (w:World)(O:Nat→Prop)(B:Nat)(pk:List UInt8)(bv cv:Value)(LB:List BrP)(pv:Value):Prop where
 c2:w.cell? ⟨B,2,none⟩=some pv
 row:w.ownsRow 0 5 1 pv pk.length (rV pk)
 rowO:∀g,pv.ownBlock=some g→O g∧g≠B∧bv.ownBlock≠some g∧cv.ownBlock≠some g∧∀p∈LB,p.2.1≠g
structure PSx (w:World)(M O:Nat→Prop)(B:Nat)(st:R.St)(bv cv:Value)(LB:List BrP)(LCm:List (R.Cm×Value×Value)):Prop where
 sub:∀b,O b→M b
 lt:∀b,O b→b<w.heap.size
 own:O B
 c0:w.cell? ⟨B,0,none⟩=some bv
 c1:w.cell? ⟨B,1,none⟩=some cv
 fr:∀o,w.frozen? ⟨B,o,none⟩=false
 brs:LB.map (·.1)=st.brs
 row:w.ownsRow 0 88 1 bv LB.length (xY LB)
 rowO:∀g,bv.ownBlock=some g→O g∧g≠B
 at_:∀p∈LB,kl w M p
 blk:∀p∈LB,O p.2.1∧p.2.1≠B∧bv.ownBlock≠some p.2.1∧cv.ownBlock≠some p.2.1
 dist:(LB.map (·.2.1)).Nodup
 cms:LCm.map (·.1)=st.cms
 crow:w.ownsRow 0 114 2 cv LCm.length (YC LCm)
 crowO:∀g,cv.ownBlock=some g→O g∧g≠B∧bv.ownBlock≠some g
 ctree:∀p∈LCm,PT w M p.2.2 p.1.tree
 cpar:∀p∈LCm,Rd w M p.2.1 p.1.parents.length (p.1.parents.map fun(n:Nat)=>Value.int .i64 (n:Int))
 pk:∃pv,UP w O B st.packed bv cv LB pv
theorem UP.kept {w w' :World}{O Z:Nat→Prop}{B:Nat}{pk:List UInt8}{bv cv pv:Value}{LB:List BrP}(h:UP w O B pk bv cv LB pv)(hk:ze Z w w')(hB:B<w.heap.size)(a0:¬Z B)(hZ:∀g,pv.ownBlock=some g→¬Z g):UP w' O B pk bv cv LB pv:=
 ⟨by rw[hk.cell (p:=⟨B,2,none⟩) hB a0];exact h.c2,zq h.row hk hZ,h.rowO⟩
def PS (w:World)(M O:Nat→Prop)(B:Nat)(st:R.St):Prop:=∃bv cv LB LCm,PSx w M O B st bv cv LB LCm
def zv (w w' :World)(M O:Nat→Prop)(B:Nat)(st' :R.St):Prop:=∃O',PS w' (fun b=>M b∨O' b) O' B st' ∧ze O w w' ∧(∀b,O' b→O b∨w.heap.size≤b)
theorem kl.kept {w w' :World}{M M' Z:Nat→Prop}{p:BrP}(h:kl w M p)(hk:ze Z w w')(hb:p.2.1<w.heap.size)(hZ:¬Z p.2.1)(a0:∀b,Z b→M b)(hM:∀b,M' b→M b∨w.heap.size≤b):kl w' M' p:=
 ⟨by rw[hk.cell (p:=⟨p.2.1,0,none⟩) hb hZ];exact h.c0,by rw[hk.cell (p:=⟨p.2.1,1,none⟩) hb hZ];exact h.c1,by rw[hk.cell (p:=⟨p.2.1,2,none⟩) hb hZ];exact h.c2,
  fun o=>by rw[hk.frozen (p:=⟨p.2.1,o,none⟩) hb hZ];exact h.fr o,h.work.step hk a0 hM⟩
theorem PSx.kept {w w' :World}{M O:Nat→Prop}{B:Nat}{st:R.St}{bv cv:Value}{LB:List BrP}{LCm:List (R.Cm×Value×Value)}(h:PSx w M O B st bv cv LB LCm){Z:Nat→Prop}(hk:ze Z w w')(hZ:∀b,Z b→M b∧¬O b){M' :Nat→Prop}(hM:∀b,M' b→M b∨w.heap.size≤b)(a2:∀b,O b→M' b):PSx w' M' O B st bv cv LB LCm:=by
 have hB:=h.lt B h.own;have a0:¬Z B:=fun e=>(hZ B e).2 h.own
 have a1:∀b,Z b→M b:=fun b e=>(hZ b e).1
 exact⟨a2,fun b hb=>j0b (h.lt b hb) hk.size,h.own,by rw[hk.cell (p:=⟨B,0,none⟩) hB a0];exact h.c0,by rw[hk.cell (p:=⟨B,1,none⟩) hB a0];exact h.c1,
  fun o=>by rw[hk.frozen (p:=⟨B,o,none⟩) hB a0];exact h.fr o,h.brs,zq h.row hk (fun g e e2=>(hZ g e2).2 (h.rowO g e).1),h.rowO,
  fun p hp=>(h.at_ p hp).kept hk (h.lt _ (h.blk p hp).1) (fun e=>(hZ _ e).2 (h.blk p hp).1) a1 hM,h.blk,h.dist,h.cms,zq h.crow hk (fun g e e2=>(hZ g e2).2 (h.crowO g e).1),h.crowO,
  fun p hp=>(h.ctree p hp).step hk a1 hM,fun p hp=>(h.cpar p hp).step hk a1 hM,
  by obtain⟨pv,hp⟩:=h.pk;exact⟨pv,hp.kept hk hB a0 (fun g e e2=>(hZ g e2).2 (hp.rowO g e).1)⟩⟩
theorem PS.kept {w w' :World}{M O:Nat→Prop}{B:Nat}{st:R.St}(h:PS w M O B st){Z:Nat→Prop}(hk:ze Z w w')(hZ:∀b,Z b→M b∧¬O b){M' :Nat→Prop}(hM:∀b,M' b→M b∨w.heap.size≤b)(a0:∀b,O b→M' b):PS w' M' O B st:=by
 obtain⟨bv,cv,LB,LCm,h⟩:=h;exact⟨bv,cv,LB,LCm,h.kept hk hZ hM a0⟩
theorem PSx.below {w w' :World}{M O:Nat→Prop}{B:Nat}{st:R.St}{bv cv:Value}{LB:List BrP}{LCm:List (R.Cm×Value×Value)}(h:PSx w M O B st bv cv LB LCm)(hb:Below w.heap.size w w'):PSx w' M O B st bv cv LB LCm:=
 h.kept (ze.of_below (M:=fun _=>False) hb) (fun _ e=>e.elim) (fun _ e=> .inl e) h.sub
theorem PS.below {w w' :World}{M O:Nat→Prop}{B:Nat}{st:R.St}(h:PS w M O B st)(hb:Below w.heap.size w w'):PS w' M O B st:=by
 obtain⟨bv,cv,LB,LCm,h⟩:=h;exact⟨bv,cv,LB,LCm,h.below hb⟩
theorem zv.same {w w' :World}{M O:Nat→Prop}{B:Nat}{st:R.St}(h:PS w M O B st)(hb:Below w.heap.size w w'):zv w w' M O B st:=by
 have hs:∀b,O b→M b:=by obtain⟨bv,cv,LB,LCm,h⟩:=h;exact h.sub
 exact⟨O,(h.below hb).kept (ze.refl (fun _=>False) _) (fun _ e=>e.elim) (fun b e=>by rcases e with e|e;exact .inl e;exact .inl (hs b e)) (fun b e=> .inr e),ze.of_below hb,fun b e=> .inl e⟩
theorem zv.trans {w w1 w2:World}{M O O1:Nat→Prop}{B:Nat}{st:R.St}(hk:ze O w w1)(hO:∀b,O1 b→O b∨w.heap.size≤b)(h:zv w1 w2 (fun b=>M b∨O1 b) O1 B st):zv w w2 M O B st:=by
 obtain⟨O2,hp,a0,h2⟩:=h;refine⟨O2,hp.kept (ze.refl (fun _=>False) _) (fun _ e=>e.elim) (fun b e=> ?_) (fun b e=> .inr e),⟨a0.os.trans hk.os,a0.tape.trans hk.tape,a0.output.trans hk.output,j0f hk.size a0.size,fun k a1 hn=> ?_⟩,fun b e=> ?_⟩
 ·rcases e with e|e
  ·exact .inl (.inl (.inl e))
  ·exact .inl (.inr e)
 ·rw[a0.block k (j0b a1 hk.size) (fun e=>by rcases hO k e with e|e;exact hn e;omega)]
  exact hk.block k a1 hn
 ·rcases h2 b e with e|e
  ·exact hO b e
  ·exact .inr (j0f hk.size e)
theorem zv.after {w w1 w2:World}{M O:Nat→Prop}{B:Nat}{st:R.St}(hb:Below w.heap.size w w1)(h:zv w1 w2 M O B st):zv w w2 M O B st:=by
 obtain⟨O2,hp,a0,h2⟩:=h;exact⟨O2,hp,(ze.of_below hb).trans a0,fun b e=>by
  rcases h2 b e with e|e
  ·exact .inl e
  ·exact .inr (j0f hb.size e)⟩
theorem Qv {w:World}{g:Nat}{L:List BrP}(hc:∀j u,(xY L)[j]? =some u→w.cell? ⟨g,j,none⟩=some u)(i:Nat)(h:i<L.length):w.cell? ⟨g,i,none⟩=some (.pointer (some ⟨(L[i]'h).2.1,0,none⟩)):=
 hc i _ (by simp[xY,h])
theorem jD {w w5:World}{M O:Nat→Prop}{B:Nat}{st st' :R.St}{bv cv:Value}{LB LB' :List BrP}{LCm:List (R.Cm×Value×Value)}(hP:PSx w M O B st bv cv LB LCm){v3:Value}(hK:ze (fun b=>bv.ownBlock=some b) w w5)
  (a7:w5.ownsRow 0 88 1 v3 LB'.length (xY LB'))(a3:∀g,v3.ownBlock=some g→bv.ownBlock=some g∨w.heap.size≤g)
  (a1:∀p∈LB',p∈LB∨(w.heap.size≤p.2.1∧p.2.1<w5.heap.size∧(PT w M p.2.2 p.1.work∧kl w5 (fun _=>False) p)∧v3.ownBlock≠some p.2.1))(a5:(LB'.map (·.2.1)).Nodup)(b5:LB'.map (·.1)=st'.brs)(b6:st'.cms=st.cms)(b7:st'.packed=st.packed):
  ∃O',PSx (w5.setCell ⟨B,0,none⟩ v3) (fun b=>M b∨O' b) O' B st' v3 cv LB' LCm∧ze O w (w5.setCell ⟨B,0,none⟩ v3)∧(∀b,O' b→O b∨w.heap.size≤b):=by
 have hB:=hP.lt B hP.own;have a4:bv.ownBlock≠some B:=fun e=>(hP.rowO B e).2 rfl
 have b2:∀b,(bv.ownBlock=some b∨b=B)→M b:=by
  rintro b (e|rfl)
  ·exact hP.sub b (hP.rowO b e).1
  ·exact hP.sub _ hP.own
 have a2:ze (fun b=>bv.ownBlock=some b∨b=B) w (w5.setCell ⟨B,0,none⟩ v3):=(hK.mono (fun b e=> .inl e)).setCell (p:=⟨B,0,none⟩) (.inl (.inr rfl)) v3;have a0:ze (fun b=>b=B) w5 (w5.setCell ⟨B,0,none⟩ v3):=(ze.refl (fun b=>b=B) w5).setCell (p:=⟨B,0,none⟩) (.inl rfl) v3;have b8:w5.cell? ⟨B,0,none⟩=some bv:=by rw[hK.cell (p:=⟨B,0,none⟩) hB a4];exact hP.c0
 have a8:v3.ownBlock≠some B:=fun e=>by
  rcases a3 B e with e|e
  ·exact a4 e
  ·omega
 have a9:∀O' :Nat→Prop,(∀b,O' b→O b∨w.heap.size≤b)→∀b,(M b∨O' b)→M b∨w.heap.size≤b:=fun O' h b e=>by
  rcases e with e|e
  ·exact .inl e
  ·rcases h b e with e|e
   ·exact .inl (hP.sub b e)
   ·exact .inr e
 refine⟨fun b=>O b∨v3.ownBlock=some b∨∃p∈LB',p.2.1=b,?_,a2.mono (fun b e=>by
  rcases e with e|rfl
  ·exact(hP.rowO b e).1
  ·exact hP.own),fun b e=>by
  rcases e with e|e|⟨p,hp,rfl⟩
  ·exact .inl e
  ·rcases a3 b e with e|e
   ·exact .inl (hP.rowO b e).1
   ·exact .inr e
  ·rcases a1 p hp with h|h
   ·exact .inl (hP.blk p h).1
   ·exact .inr h.1⟩
 have b1 :∀b,(O b∨v3.ownBlock=some b∨∃p∈LB',p.2.1=b)→O b∨w.heap.size≤b:=fun b e=>by
  rcases e with e|e|⟨p,hp,rfl⟩
  ·exact .inl e
  ·rcases a3 b e with e|e
   ·exact .inl (hP.rowO b e).1
   ·exact .inr e
  ·rcases a1 p hp with h|h
   ·exact .inl (hP.blk p h).1
   ·exact .inr h.1
 have c6:w.heap.size≤w5.heap.size:=hK.size;refine⟨fun b e=> .inr e,fun b e=> ?_,.inl hP.own,Ya _ _ _ _ _ b8,?_,fun o=> ?_,b5,zq a7 a0 (fun g e e2=>a8 (by rw[e,e2])),fun g e=>⟨.inr (.inl e),fun e2=>a8 (by rw[e,e2])⟩,?_,?_,a5,by rw[b6];exact hP.cms,?_,?_,?_,?_,?_⟩
 ·have:b<w5.heap.size:=by
   rcases e with e|e|⟨p,hp,rfl⟩
   ·have:=hP.lt b e;omega
   ·exact(a7.lt b e).2
   ·rcases a1 p hp with h|h
    ·have:=hP.lt _ (hP.blk p h).1;omega
    ·exact h.2.1
  exact j0b this a0.size
 ·rw[zL _ _ _ _ _ (by omega),hK.cell (p:=⟨B,1,none⟩) hB a4];exact hP.c1
 ·have:=(ze.refl (fun b=>b=B) w5).setCell (p:=⟨B,0,none⟩) (.inl rfl) v3
  rw[rW,hK.frozen (p:=⟨B,o,none⟩) hB a4];exact hP.fr o
 ·intro p hp
  rcases a1 p hp with h|h
  ·exact(hP.at_ p h).kept a2 (hP.lt _ (hP.blk p h).1) (fun e=>by
    rcases e with e|e
    ·exact(hP.blk p h).2.2.1 e
    ·exact(hP.blk p h).2.1 e) b2 (a9 _ b1)
  ·have b3:=h.2.2.1.2
   have b4:¬p.2.1=B:=by have:=h.1;omega
   exact⟨by rw[a0.cell (p:=⟨p.2.1,0,none⟩) h.2.1 b4];exact b3.c0,by rw[a0.cell (p:=⟨p.2.1,1,none⟩) h.2.1 b4];exact b3.c1,by rw[a0.cell (p:=⟨p.2.1,2,none⟩) h.2.1 b4];exact b3.c2,
    fun o=>by rw[a0.frozen (p:=⟨p.2.1,o,none⟩) h.2.1 b4];exact b3.fr o,h.2.2.1.1.step a2 b2 (a9 _ b1)⟩
 ·intro p hp
  refine⟨.inr (.inr ⟨p,hp,rfl⟩),?_⟩;rcases a1 p hp with h|h
  ·refine⟨(hP.blk p h).2.1,fun e=> ?_,(hP.blk p h).2.2.2⟩
   rcases a3 _ e with e|e
   ·exact(hP.blk p h).2.2.1 e
   ·have:=hP.lt _ (hP.blk p h).1;omega
  ·exact⟨by omega,h.2.2.2,fun e=>by have:=hP.lt _ (hP.crowO _ e).1;omega⟩
 ·exact zq hP.crow a2 (fun g e e2=>by
   rcases e2 with e2|e2
   ·exact(hP.crowO g e).2.2 e2
   ·exact(hP.crowO g e).2.1 e2)
 ·intro g e
  refine⟨.inl (hP.crowO g e).1,(hP.crowO g e).2.1,fun e2=> ?_⟩;rcases a3 g e2 with e2|e2
  ·exact(hP.crowO g e).2.2 e2
  ·have:=hP.lt _ (hP.crowO g e).1;omega
 ·exact fun p hp=>(hP.ctree p hp).step a2 b2 (a9 _ b1)
 ·exact fun p hp=>(hP.cpar p hp).step a2 b2 (a9 _ b1)
 ·rw[b7]
  obtain⟨pv,a6⟩:=hP.pk;have hZ:∀g,pv.ownBlock=some g→¬(bv.ownBlock=some g∨g=B):=fun g e e2=>by
   rcases e2 with e2|e2
   ·exact(a6.rowO g e).2.2.1 e2
   ·exact(a6.rowO g e).2.1 e2
  refine⟨pv,?_,zq a6.row a2 hZ,fun g e=> ?_⟩
  ·rw[zL _ _ _ _ _ (by omega),hK.cell (p:=⟨B,2,none⟩) hB a4];exact a6.c2
  ·have hg:=a6.rowO g e
   have b9:=hP.lt g hg.1;refine⟨.inl hg.1,hg.2.1,fun e2=> ?_,hg.2.2.2.1,fun p hp=> ?_⟩
   ·rcases a3 g e2 with e2|e2
    ·exact hg.2.2.1 e2
    ·omega
   ·rcases a1 p hp with h|h
    ·exact hg.2.2.2.2 p h
    ·have:=h.1;omega
theorem cA {w w5:World}{M O:Nat→Prop}{B:Nat}{st st' :R.St}{bv cv:Value}{LB:List BrP}{LCm:List (R.Cm×Value×Value)}(hP:PSx w M O B st bv cv LB LCm){v3:Value}(hK:ze (fun b=>bv.ownBlock=some b) w w5)(nb:BrP)
  (a5:w5.ownsRow 0 88 1 v3 (LB.length+1) ((xY LB).take (R.pos st.brs nb.1.name)++(Value.pointer (some ⟨nb.2.1,0,none⟩)::(xY LB).drop (R.pos st.brs nb.1.name))))(a8:∀g,v3.ownBlock=some g→bv.ownBlock=some g∨w.heap.size≤g)
  (a6:w.heap.size≤nb.2.1∧nb.2.1<w5.heap.size∧(PT w M nb.2.2 nb.1.work∧kl w5 (fun _=>False) nb)∧v3.ownBlock≠some nb.2.1)(a1:st'.brs=R.insB st.brs nb.1)(a2:st'.cms=st.cms)(a4:st'.packed=st.packed):
  ∃O',PSx (w5.setCell ⟨B,0,none⟩ v3) (fun b=>M b∨O' b) O' B st' v3 cv (LB.take (R.pos st.brs nb.1.name)++nb::LB.drop (R.pos st.brs nb.1.name)) LCm∧ze O w (w5.setCell ⟨B,0,none⟩ v3)∧(∀b,O' b→O b∨w.heap.size≤b):=by
 have a3:st.brs.length=LB.length:=by rw[←hP.brs,List.length_map]
 have a7:R.pos st.brs nb.1.name≤LB.length:=by rw[←a3];exact List.findIdx_le_length
 generalize hp:R.pos st.brs nb.1.name=p at*;refine jD hP hK (LB' :=LB.take p++nb::LB.drop p) ?_ a8 ?_ ?_ ?_ a2 a4
 ·have e1:(LB.take p++nb::LB.drop p).length=LB.length+1:=by simp only[mB,nP,mC,nQ];omega
  have e2:xY (LB.take p++nb::LB.drop p)=(xY LB).take p++(Value.pointer (some ⟨nb.2.1,0,none⟩)::(xY LB).drop p):=by simp[xY,rX,rY]
  rw[e1,e2];exact a5
 ·intro q hq
  rcases nJ.1 hq with h|h
  ·exact .inl (List.mem_of_mem_take h)
  ·rcases List.mem_cons.1 h with rfl|h
   ·exact .inr a6
   ·exact .inl (List.mem_of_mem_drop h)
 ·have a0:(LB.take p++nb::LB.drop p).Perm (nb::LB):=by
   have:=List.perm_middle (l₁:=LB.take p) (a:=nb) (l₂:=LB.drop p);rwa[mH]at this
  rw[(a0.map (fun q:BrP=>q.2.1)).nodup_iff,List.map_cons,List.nodup_cons];refine⟨fun hm=> ?_,hP.dist⟩;obtain⟨q,hq,e⟩:=List.mem_map.1 hm;have:=hP.lt _ (hP.blk q hq).1;have:=a6.1;omega
 ·rw[a1,R.insB,hp,←hP.brs];simp[rX,rY]
theorem c_ {w w5:World}{M O:Nat→Prop}{B:Nat}{st st' :R.St}{bv cv:Value}{LB:List BrP}{LCm:List (R.Cm×Value×Value)}(hP:PSx w M O B st bv cv LB LCm){v3:Value}(hK:ze (fun b=>bv.ownBlock=some b) w w5){p:Nat}(hp:p<LB.length)
  (a4:w5.ownsRow 0 88 1 v3 (LB.length-1) ((xY LB).take p++(xY LB).drop (p+1)))(a5:∀g,v3.ownBlock=some g→bv.ownBlock=some g∨w.heap.size≤g)
  (a1:st'.brs=st.brs.take p++st.brs.drop (p+1))(a2:st'.cms=st.cms)(a3:st'.packed=st.packed):
  ∃O',PSx (w5.setCell ⟨B,0,none⟩ v3) (fun b=>M b∨O' b) O' B st' v3 cv (LB.take p++LB.drop (p+1)) LCm∧ze O w (w5.setCell ⟨B,0,none⟩ v3)∧(∀b,O' b→O b∨w.heap.size≤b):=by
 have a0:(LB.take p++LB.drop (p+1)).Sublist LB:=by
  have h1:(LB.drop (p+1)).Sublist (LB.drop p):=by rw[←List.drop_drop];exact List.drop_sublist _ _
  have:=List.Sublist.append (List.Sublist.refl (LB.take p)) h1;rwa[mH]at this
 refine jD hP hK (LB' :=LB.take p++LB.drop (p+1)) ?_ a5 (fun q hq=> .inl (a0.subset hq)) ((a0.map _).nodup hP.dist) ?_ a2 a3
 ·have e1:(LB.take p++LB.drop (p+1)).length=LB.length-1:=by simp only[mB,nP,nQ];omega
  have e2:xY (LB.take p++LB.drop (p+1))=(xY LB).take p++(xY LB).drop (p+1):=by simp[xY,rX,rY]
  rw[e1,e2];exact a4
 ·rw[a1,←hP.brs];simp[rX,rY]
theorem Qt {w w5 w6:World}{M O:Nat→Prop}{B:Nat}{st:R.St}{bv cv:Value}{LB:List BrP}{LCm:List (R.Cm×Value×Value)}(hP:PSx w M O B st bv cv LB LCm){i:Nat}(hi:i<LB.length){tv:Value}{nb:R.Br}(b1:Below w.heap.size w w5)
  (a1:ze (fun b=>b=(LB[i]'hi).2.1) w5 w6)(b5:kl w6 M (nb,(LB[i]'hi).2.1,tv)):
  PSx w6 M O B {st with brs:=st.brs.set i nb} bv cv (LB.set i (nb,(LB[i]'hi).2.1,tv)) LCm∧ze O w w6:=by
 have a0:=hP.below b1;have a8:LB[i]'hi∈LB:=j0c hi;obtain⟨hO,a4,b4,b3⟩:=hP.blk _ a8;have b7:=a0.lt _ hO;generalize hx:LB[i]'hi=x at*;have a7:∀b,b=x.2.1→M b:=fun b e=>by subst e;exact hP.sub _ hO
 have a6:∀b,M b→M b∨w5.heap.size≤b:=fun b e=> .inl e
 refine⟨?_,((ze.of_below b1).mono (M:=fun _=>False) (fun _ e=>e.elim)).trans (a1.mono (fun b e=>by subst e;exact hO))⟩;have a2:(LB.set i (nb,x.2.1,tv)).map (·.2.1)=LB.map (·.2.1):=by
  rw[rZ];apply List.ext_getElem?;intro j;rw[List.getElem?_set];split
  ·rename_i e;subst e;simp[hi,hx]
  ·rfl
 have a9:xY (LB.set i (nb,x.2.1,tv))=xY LB:=by
  have:=congrArg (List.map fun b:Nat=>Value.pointer (some ⟨b,0,none⟩)) a2;simpa[xY,List.map_map,Function.comp_def]using this
 have a3:∀p∈LB.set i (nb,x.2.1,tv),p=(nb,x.2.1,tv)∨(p∈LB∧p.2.1≠x.2.1):=by
  intro p hp;obtain⟨j,hj,rfl⟩:=List.getElem_of_mem hp;rw[List.getElem_set];split
  ·exact .inl rfl
  ·rename_i b6
   have b2 :j<LB.length:=by simpa using hj
   refine .inr ⟨j0c _,fun e=>b6 ?_⟩;have hd:=hP.dist;unfold List.Nodup at hd;rw[List.pairwise_iff_getElem]at hd;rcases Nat.lt_trichotomy i j with h|h|h
   ·exact(hd i j (by simpa using hi) (by simpa using b2) h (by rw[sA,sA,hx];exact e.symm)).elim
   ·exact h
   ·exact(hd j i (by simpa using b2) (by simpa using hi) h (by rw[sA,sA,hx];exact e)).elim
 refine⟨hP.sub,fun b e=>j0b (a0.lt b e) a1.size,hP.own,?_,?_,fun o=> ?_,?_,?_,hP.rowO,?_,?_,by rw[a2];exact hP.dist,hP.cms,?_,hP.crowO,?_,?_,?_⟩
 ·rw[a1.cell (p:=⟨B,0,none⟩) (a0.lt B hP.own) (fun e=>a4 e.symm)];exact a0.c0
 ·rw[a1.cell (p:=⟨B,1,none⟩) (a0.lt B hP.own) (fun e=>a4 e.symm)];exact a0.c1
 ·rw[a1.frozen (p:=⟨B,o,none⟩) (a0.lt B hP.own) (fun e=>a4 e.symm)];exact a0.fr o
 ·rw[rZ,hP.brs]
 ·rw[rT,a9]
  exact zq a0.row a1 (fun g e e2=>b4 (by rw[e,e2]))
 ·intro p hp
  rcases a3 p hp with rfl|⟨hp,b8⟩
  ·exact b5
  ·exact(a0.at_ p hp).kept a1 (a0.lt _ (hP.blk p hp).1) b8 a7 a6
 ·intro p hp
  rcases a3 p hp with rfl|⟨hp,_⟩
  ·exact⟨hO,a4,b4,b3⟩
  ·exact hP.blk p hp
 ·exact zq a0.crow a1 (fun g e e2=>b3 (by rw[e,e2]))
 ·exact fun p hp=>(a0.ctree p hp).step a1 a7 a6
 ·exact fun p hp=>(a0.cpar p hp).step a1 a7 a6
 ·obtain⟨pv,a5⟩:=a0.pk
  refine⟨pv,?_,zq a5.row a1 (fun g e e2=>(a5.rowO g e).2.2.2.2 x (by rw[←hx];exact j0c hi) e2.symm),fun g e=> ?_⟩
  ·rw[a1.cell (p:=⟨B,2,none⟩) (a0.lt B hP.own) (fun e=>a4 e.symm)];exact a5.c2
  ·have hg:=a5.rowO g e
   refine⟨hg.1,hg.2.1,hg.2.2.1,hg.2.2.2.1,fun p hp=> ?_⟩;rcases a3 p hp with rfl|⟨hp,_⟩
   ·exact hg.2.2.2.2 x (by rw[←hx];exact j0c hi)
   ·exact hg.2.2.2.2 p hp
theorem PSx.toStep {w w' :World}{M O O' :Nat→Prop}{B:Nat}{st' :R.St}{bv cv:Value}{LB:List BrP}{LCm:List (R.Cm×Value×Value)}(h:PSx w' (fun b=>M b∨O' b) O' B st' bv cv LB LCm)(hk:ze O w w')(hO:∀b,O' b→O b∨w.heap.size≤b):zv w w' M O B st' :=⟨O',⟨bv,cv,LB,LCm,h⟩,hk,hO⟩
theorem PSx.widen {w:World}{M O:Nat→Prop}{B:Nat}{st:R.St}{bv cv:Value}{LB:List BrP}{LCm:List (R.Cm×Value×Value)}(h:PSx w M O B st bv cv LB LCm):PSx w (fun b=>M b∨O b) O B st bv cv LB LCm:=
 h.kept (ze.refl (fun _=>False) _) (fun _ e=>e.elim) (fun b e=>by rcases e with e|e;exact .inl e;exact .inl (h.sub b e)) (fun b e=> .inr e)
theorem gq {w w5:World}{M O:Nat→Prop}{B:Nat}{st:R.St}{bv cv:Value}{LB:List BrP}{LCm:List (R.Cm×Value×Value)}(hP:PSx w M O B st bv cv LB LCm){i:Nat}(hi:i<LB.length){tv:Value}{t:List R.Leaf}(a2:Below w.heap.size w w5)(a4:PT w5 M tv t):
  zv w (w5.setCell ⟨(LB[i]'hi).2.1,2,none⟩ tv) M O B (R.setWork st i t):=by
 have a0:=(hP.below a2).at_ _ (j0c hi);have hO:=(hP.blk _ (j0c hi)).1;have a1:ze (fun b=>b=(LB[i]'hi).2.1) w5 (w5.setCell ⟨(LB[i]'hi).2.1,2,none⟩ tv):=(ze.refl (fun b=>b=(LB[i]'hi).2.1) w5).setCell (p:=⟨(LB[i]'hi).2.1,2,none⟩) (.inl rfl) tv;obtain⟨h1,h2⟩:=Qt (nb:={(LB[i]'hi).1 with work:=t}) (tv:=tv) hP hi a2 a1 ⟨by rw[zL _ _ _ _ _ (by omega)];exact a0.c0,by rw[zL _ _ _ _ _ (by omega)];exact a0.c1,Ya _ _ _ _ _ a0.c2,fun o=>by rw[rW];exact a0.fr o,
  a4.step a1 (fun b e=>by subst e;exact hP.sub _ hO) (fun b e=> .inl e)⟩
 have he:R.setWork st i t={st with brs:=st.brs.set i {(LB[i]'hi).1 with work:=t}}:=by
  have a3:st.brs[i]? =some (LB[i]'hi).1:=by rw[←hP.brs,List.getElem?_map,j0d hi];rfl
  unfold R.setWork;rw[a3]
 rw[he];exact h1.widen.toStep h2 (fun b e=> .inl e)
theorem FD {w w5:World}{M O:Nat→Prop}{B:Nat}{st:R.St}{bv cv pv:Value}{LB:List BrP}{LCm:List (R.Cm×Value×Value)}(hP:PSx w M O B st bv cv LB LCm)(a0:UP w O B st.packed bv cv LB pv){v3:Value}{pk:List UInt8}(hK:ze (fun b=>pv.ownBlock=some b) w w5)
  (a4:w5.ownsRow 0 5 1 v3 pk.length (rV pk))(a7:∀g,v3.ownBlock=some g→pv.ownBlock=some g∨w.heap.size≤g):
  zv w (w5.setCell ⟨B,2,none⟩ v3) M O B {st with packed:=pk}:=by
 have hB:=hP.lt B hP.own;have a2:pv.ownBlock≠some B:=fun e=>(a0.rowO B e).2.1 rfl
 have a1:ze (fun b=>pv.ownBlock=some b∨b=B) w (w5.setCell ⟨B,2,none⟩ v3):=(hK.mono (fun b e=> .inl e)).setCell (p:=⟨B,2,none⟩) (.inl (.inr rfl)) v3;have a3:ze (fun b=>b=B) w5 (w5.setCell ⟨B,2,none⟩ v3):=(ze.refl (fun b=>b=B) w5).setCell (p:=⟨B,2,none⟩) (.inl rfl) v3;have a6:∀b,(pv.ownBlock=some b∨b=B)→M b:=by
  rintro b (e|rfl)
  ·exact hP.sub b (a0.rowO b e).1
  ·exact hP.sub _ hP.own
 have a8:v3.ownBlock≠some B:=fun e=>by
  rcases a7 B e with e|e
  ·exact a2 e
  ·omega
 have a9 :∀b,(O b∨v3.ownBlock=some b)→O b∨w.heap.size≤b:=fun b e=>by
  rcases e with e|e
  ·exact .inl e
  ·rcases a7 b e with e|e
   ·exact .inl (a0.rowO b e).1
   ·exact .inr e
 have a5:∀b,(M b∨(O b∨v3.ownBlock=some b))→M b∨w.heap.size≤b:=fun b e=>by
  rcases e with e|e
  ·exact .inl e
  ·rcases a9 b e with e|e
   ·exact .inl (hP.sub b e)
   ·exact .inr e
 have b1:w.heap.size≤w5.heap.size:=hK.size;refine⟨fun b=>O b∨v3.ownBlock=some b,⟨bv,cv,LB,LCm,fun b e=> .inr e,fun b e=> ?_,.inl hP.own,?_,?_,fun o=> ?_,hP.brs,?_,fun g e=>⟨.inl (hP.rowO g e).1,(hP.rowO g e).2⟩,?_,fun p hp=>⟨.inl (hP.blk p hp).1,(hP.blk p hp).2⟩,hP.dist,hP.cms,?_,fun g e=>⟨.inl (hP.crowO g e).1,(hP.crowO g e).2⟩,?_,?_,v3,?_,?_,?_⟩,a1.mono (fun b e=>by
  rcases e with e|rfl
  ·exact(a0.rowO b e).1
  ·exact hP.own),a9⟩
 ·have:b<w5.heap.size:=by
   rcases e with e|e
   ·have:=hP.lt b e;omega
   ·exact(a4.lt b e).2
  exact j0b this a3.size
 ·rw[zL _ _ _ _ _ (by omega),hK.cell (p:=⟨B,0,none⟩) hB a2];exact hP.c0
 ·rw[zL _ _ _ _ _ (by omega),hK.cell (p:=⟨B,1,none⟩) hB a2];exact hP.c1
 ·rw[rW,hK.frozen (p:=⟨B,o,none⟩) hB a2];exact hP.fr o
 ·exact zq hP.row a1 (fun g e e2=>by
   rcases e2 with e2|e2
   ·exact(a0.rowO g e2).2.2.1 e
   ·exact(hP.rowO g e).2 e2)
 ·exact fun p hp=>(hP.at_ p hp).kept a1 (hP.lt _ (hP.blk p hp).1) (fun e=>by
   rcases e with e|e
   ·exact(a0.rowO _ e).2.2.2.2 p hp rfl
   ·exact(hP.blk p hp).2.1 e) a6 a5
 ·exact zq hP.crow a1 (fun g e e2=>by
   rcases e2 with e2|e2
   ·exact(a0.rowO g e2).2.2.2.1 e
   ·exact(hP.crowO g e).2.1 e2)
 ·exact fun p hp=>(hP.ctree p hp).step a1 a6 a5
 ·exact fun p hp=>(hP.cpar p hp).step a1 a6 a5
 ·exact Ya _ _ _ _ pv (by rw[hK.cell (p:=⟨B,2,none⟩) hB a2];exact a0.c2)
 ·exact zq a4 a3 (fun g e e2=>a8 (by rw[e,e2]))
 ·intro g e
  rcases a7 g e with e2|e2
  ·have hg:=a0.rowO g e2
   exact⟨.inr e,hg.2.1,hg.2.2⟩
  ·refine⟨.inr e,by omega,fun e3=> ?_,fun e3=> ?_,fun p hp e3=> ?_⟩
   ·have:=hP.lt _ (hP.rowO _ e3).1;omega
   ·have:=hP.lt _ (hP.crowO _ e3).1;omega
   ·have:=hP.lt _ (hP.blk p hp).1;omega
structure Ap (wr w' :World)(v v' :Value):Prop where
 os:w'.os=wr.os
 tape:w'.tape=wr.tape
 output:w'.output=wr.output
 size:wr.heap.size≤w'.heap.size
 blk:∀k,k<wr.heap.size→v.ownBlock≠some k→w'.heap[k]? =wr.heap[k]?
 lies:∀g,v'.ownBlock=some g→v.ownBlock=some g∨wr.heap.size≤g
 moved:∀g,g<wr.heap.size→v'.ownBlock≠some g→w'.heap[g]? =wr.heap[g]?
def VL (wr:World)(H0:Nat)(nv tv lv:Value)(n:Nat)(m:Value)(v:Value):Prop:=
 ∃a k c,v= .slice a k c∧k≤c∧c≤maxLen∧(0<k→∃g,a=some ⟨g,0,none⟩∧H0≤g∧g<wr.heap.size∧nv.ownBlock≠some g∧tv.ownBlock≠some g∧(∀j,j<k→wr.cell? ⟨g,j,none⟩=some m)∧(lv.ownBlock=some g→k≤n))
structure KI (LT ET o1 o2:Nat)(w0 wr:World)(Wb:Nat)(nv0 tv0:Value)(nvals tvals:List Value)(m:Value)(last:Nat)(nv tv:Value)(vals:List Value)(t:Nat)(lv:Value)(n:Nat):Prop where
 kept:ze (fun b=>nv0.ownBlock=some b∨tv0.ownBlock=some b∨b=Wb) w0 wr
 cs:∀o,o≠o1→o≠o2→o≠5→wr.cell? ⟨Wb,o,none⟩=w0.cell? ⟨Wb,o,none⟩
 c1:wr.cell? ⟨Wb,o1,none⟩=some nv
 c2:wr.cell? ⟨Wb,o2,none⟩=some tv
 c5:wr.cell? ⟨Wb,5,none⟩=some (.int .i64 (last:Int))
 fr:∀o,wr.frozen? ⟨Wb,o,none⟩=false
 nrow:wr.ownsRow 0 LT 1 nv (nvals.length+vals.length) (nvals++vals)
 trow:wr.ownsRow 0 ET 1 tv (tvals.length+t) (tvals++rU t m)
 lrow:wr.ownsRow w0.heap.size ET 1 lv n (rU n m)
 nl:∀g,nv.ownBlock=some g→nv0.ownBlock=some g∨w0.heap.size≤g
 tl:∀g,tv.ownBlock=some g→tv0.ownBlock=some g∨w0.heap.size≤g
 nt:∀g,nv.ownBlock=some g→tv.ownBlock≠some g
 ln:∀g,lv.ownBlock=some g→nv.ownBlock≠some g∧tv.ownBlock≠some g
 vl:∀v∈vals,VL wr w0.heap.size nv tv lv n m v
 wb:Wb<w0.heap.size
 nW:nv0.ownBlock≠some Wb
 tW:tv0.ownBlock≠some Wb
 dis:o1≠o2∧o1≠5∧o2≠5
section
variable {LT ET o1 o2:Nat}{w0 wr w1:World}{Wb:Nat}{nv0 tv0:Value}{nvals tvals:List Value}{m:Value}{last:Nat}{nv tv:Value}{vals:List Value}{t:Nat}{lv:Value}{n:Nat}
end
def YH (w w' :World)(M O:Nat→Prop)(B:Nat)(st' :R.St)(bv cv:Value)(LB:List BrP)(LCm:List (R.Cm×Value×Value)):Prop:=∃O',PSx w' (fun b=>M b∨O' b) O' B st' bv cv LB LCm∧ze O w w' ∧(∀b,O' b→O b∨w.heap.size≤b)
theorem YH.trans {w w1 w2:World}{M O O1:Nat→Prop}{B:Nat}{st:R.St}{bv cv:Value}{LB:List BrP}{LCm:List (R.Cm×Value×Value)}(hk:ze O w w1)(hO:∀b,O1 b→O b∨w.heap.size≤b)(h:YH w1 w2 (fun b=>M b∨O1 b) O1 B st bv cv LB LCm):YH w w2 M O B st bv cv LB LCm:=by
 obtain⟨O2,hp,a0,h2⟩:=h;refine⟨O2,hp.kept (ze.refl (fun _=>False) _) (fun _ e=>e.elim) (fun b e=> ?_) (fun b e=> .inr e),⟨a0.os.trans hk.os,a0.tape.trans hk.tape,a0.output.trans hk.output,j0f hk.size a0.size,fun k a1 hn=> ?_⟩,fun b e=> ?_⟩
 ·rcases e with e|e
  ·exact .inl (.inl (.inl e))
  ·exact .inl (.inr e)
 ·rw[a0.block k (j0b a1 hk.size) (fun e=>by rcases hO k e with e|e;exact hn e;omega)]
  exact hk.block k a1 hn
 ·rcases h2 b e with e|e
  ·exact hO b e
  ·exact .inr (j0f hk.size e)
theorem f9 {w w5:World}{M O:Nat→Prop}{B:Nat}{st:R.St}{bv cv pv:Value}{LB:List BrP}{LCm:List (R.Cm×Value×Value)}(hP:PSx w M O B st bv cv LB LCm)(a0:UP w O B st.packed bv cv LB pv){v3:Value}{pk:List UInt8}(hK:ze (fun b=>pv.ownBlock=some b) w w5)
  (a4:w5.ownsRow 0 5 1 v3 pk.length (rV pk))(a7:∀g,v3.ownBlock=some g→pv.ownBlock=some g∨w.heap.size≤g):
  YH w (w5.setCell ⟨B,2,none⟩ v3) M O B {st with packed:=pk} bv cv LB LCm:=by
 have hB:=hP.lt B hP.own;have a2:pv.ownBlock≠some B:=fun e=>(a0.rowO B e).2.1 rfl
 have a1:ze (fun b=>pv.ownBlock=some b∨b=B) w (w5.setCell ⟨B,2,none⟩ v3):=(hK.mono (fun b e=> .inl e)).setCell (p:=⟨B,2,none⟩) (.inl (.inr rfl)) v3;have a3:ze (fun b=>b=B) w5 (w5.setCell ⟨B,2,none⟩ v3):=(ze.refl (fun b=>b=B) w5).setCell (p:=⟨B,2,none⟩) (.inl rfl) v3;have a6:∀b,(pv.ownBlock=some b∨b=B)→M b:=by
  rintro b (e|rfl)
  ·exact hP.sub b (a0.rowO b e).1
  ·exact hP.sub _ hP.own
 have a8:v3.ownBlock≠some B:=fun e=>by
  rcases a7 B e with e|e
  ·exact a2 e
  ·omega
 have a9 :∀b,(O b∨v3.ownBlock=some b)→O b∨w.heap.size≤b:=fun b e=>by
  rcases e with e|e
  ·exact .inl e
  ·rcases a7 b e with e|e
   ·exact .inl (a0.rowO b e).1
   ·exact .inr e
 have a5:∀b,(M b∨(O b∨v3.ownBlock=some b))→M b∨w.heap.size≤b:=fun b e=>by
  rcases e with e|e
  ·exact .inl e
  ·rcases a9 b e with e|e
   ·exact .inl (hP.sub b e)
   ·exact .inr e
 have b1:w.heap.size≤w5.heap.size:=hK.size;refine⟨fun b=>O b∨v3.ownBlock=some b,⟨fun b e=> .inr e,fun b e=> ?_,.inl hP.own,?_,?_,fun o=> ?_,hP.brs,?_,fun g e=>⟨.inl (hP.rowO g e).1,(hP.rowO g e).2⟩,?_,fun p hp=>⟨.inl (hP.blk p hp).1,(hP.blk p hp).2⟩,hP.dist,hP.cms,?_,fun g e=>⟨.inl (hP.crowO g e).1,(hP.crowO g e).2⟩,?_,?_,v3,?_,?_,?_⟩,a1.mono (fun b e=>by
  rcases e with e|rfl
  ·exact(a0.rowO b e).1
  ·exact hP.own),a9⟩
 ·have:b<w5.heap.size:=by
   rcases e with e|e
   ·have:=hP.lt b e;omega
   ·exact(a4.lt b e).2
  exact j0b this a3.size
 ·rw[zL _ _ _ _ _ (by omega),hK.cell (p:=⟨B,0,none⟩) hB a2];exact hP.c0
 ·rw[zL _ _ _ _ _ (by omega),hK.cell (p:=⟨B,1,none⟩) hB a2];exact hP.c1
 ·rw[rW,hK.frozen (p:=⟨B,o,none⟩) hB a2];exact hP.fr o
 ·exact zq hP.row a1 (fun g e e2=>by
   rcases e2 with e2|e2
   ·exact(a0.rowO g e2).2.2.1 e
   ·exact(hP.rowO g e).2 e2)
 ·exact fun p hp=>(hP.at_ p hp).kept a1 (hP.lt _ (hP.blk p hp).1) (fun e=>by
   rcases e with e|e
   ·exact(a0.rowO _ e).2.2.2.2 p hp rfl
   ·exact(hP.blk p hp).2.1 e) a6 a5
 ·exact zq hP.crow a1 (fun g e e2=>by
   rcases e2 with e2|e2
   ·exact(a0.rowO g e2).2.2.2.1 e
   ·exact(hP.crowO g e).2.1 e2)
 ·exact fun p hp=>(hP.ctree p hp).step a1 a6 a5
 ·exact fun p hp=>(hP.cpar p hp).step a1 a6 a5
 ·exact Ya _ _ _ _ pv (by rw[hK.cell (p:=⟨B,2,none⟩) hB a2];exact a0.c2)
 ·exact zq a4 a3 (fun g e e2=>a8 (by rw[e,e2]))
 ·intro g e
  rcases a7 g e with e2|e2
  ·have hg:=a0.rowO g e2
   exact⟨.inr e,hg.2.1,hg.2.2⟩
  ·refine⟨.inr e,by omega,fun e3=> ?_,fun e3=> ?_,fun p hp e3=> ?_⟩
   ·have:=hP.lt _ (hP.rowO _ e3).1;omega
   ·have:=hP.lt _ (hP.crowO _ e3).1;omega
   ·have:=hP.lt _ (hP.blk p hp).1;omega
