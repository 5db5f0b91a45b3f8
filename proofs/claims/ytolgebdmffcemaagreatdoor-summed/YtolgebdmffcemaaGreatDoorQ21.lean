import Derived.Test.YtolgebdmffcemaaGreatDoorQ18
set_option linter.all false
set_option maxHeartbeats 20000000
set_option maxRecDepth 1000000
namespace Go.Proofs.YtolgebdmffcemaaGreatDoor
open Go.RowKit
def Cr (c n:Int):Int:=if c<0 then(-(c+1)) % n else c % n
namespace R
def bit (x i:Nat):Bool:=decide (x/2^i % 2=1)
def Fs:List UInt8:=[98,97,103]
def bgItem (i:Nat):List UInt8:=[UInt8.ofNat (97+i)]
def C5 (x:Nat)(st:St)(i:Nat):St:=if bit x i then(change st 42 [97] Fs 0 (bgItem i)).2 else st
def bgTurn (name:List UInt8)(x:Nat)(st:St)(i:Nat):St:=if bit x i then(change st 42 name Fs 0 (bgItem i)).2 else(change st 45 name Fs 0 (bgItem i)).2
def bg0:St:={cms:=[],brs:=[],packed:=[]}
def bg1:St:=(change (made bg0 [97] [] false).2 35 [97] [110] 1 []).2
def bg2 (f:Nat):St:=(List.range 5).foldl (C5 f) bg1
def bg3 (f:Nat):St:=(made (commit (bg2 f) [97]).2 [98] [97] true).2
def fo (name:List UInt8)(x:Nat)(st:St):St:=(commit ((List.range 5).foldl (bgTurn name x) (change st 35 name name 1 []).2) name).2
def bg4 (f x:Nat):St:=fo [97] x (bg3 f)
def bg5 (f x y:Nat):St:=fo [98] y (bg4 f x)
def cJ (f x y:Nat):List (List UInt8):=((List.range 5).filter fun i=>(bit x i&&bit y i)||((bit x i||bit y i)&& !bit f i)).map bgItem
def KX (x:Nat):List (List UInt8):=((List.range 5).filter fun i=>bit x i).map bgItem
def bgT (f x y:Nat):List (List UInt8):=if x=y then KX x else if x=f then KX y else if y=f then KX x else if x=0 then KX y else if y=0 then KX x else cJ f x y
def bgW (l:List (List UInt8)):List UInt8:=[97,32,35,49,10,98,32,35,49,10]++((if l=[]then []else Fs++ [32,42]++joinI l++ [10])++ [110,32,35,49,10])
def Cv (f x y:Nat):Bool:=decide ((joinB (bg5 f x y) [97] [98]).1.2=0)&&decide (shown (joinB (bg5 f x y) [97] [98]).2 [97]=(bgW (bgT f x y),0))
end R
def FE (name:List UInt8)(x:Nat)(st:R.St):R.St:=(List.range 5).foldl (R.bgTurn name x) (R.change st 35 name name 1 []).2
structure Cy (f x y:Nat):Prop where
 c1:(R.commit (R.bg2 f) [97]).1=(1,0)
 d1:(R.made (R.commit (R.bg2 f) [97]).2 [98] [97] true).1=0
 e4:(R.commit (FE [97] x (R.bg3 f)) [97]).1=(2,0)
 e5:(R.commit (FE [98] y (R.bg4 f x)) [98]).1=(3,0)
 j:(R.joinB (R.bg5 f x y) [97] [98]).1=(4,0)
 s:R.shown (R.joinB (R.bg5 f x y) [97] [98]).2 [97]=(R.bgW (R.bgT f x y),0)
namespace R
structure Cx (st:St):Prop where
 names:st.brs.map (·.name)=[[97],[98],[99]]
 one:1≤st.cms.length
 heads:∀b∈st.brs,1≤b.head
 par:∀i (h:i<st.cms.length),1≤i→st.cms[i].parents≠ []
structure Ct (st st' :St)(k:Nat):Prop where
 cms:∃l,st'.cms=st.cms++l∧l.length≤k
 packed:∃l,st'.packed=st.packed++l
structure Raw where
 kind:Int
 br:Int
 path:Int
 n:Int
def pk_ (c n:Int):Int:=(if c<0 then-(c+1)else c) % n
def brN (c:Int):List UInt8:=([[97],[98],[99]]:List (List UInt8)).getD (pk_ c 3).toNat []
def cg:List (List UInt8):=[[110],[109],[115],[116],[120,47,110],[120,47,115],[120,47,121,47,122],[120],[113,47,114],[110,47,111]]
def uy (c:Int):List UInt8:=cg.getD (pk_ c 10).toNat []
def zFS:List (List UInt8):=[[112],[113],[114],[115,111,109,101,32,116,101,120,116],[122]]
def G4 (c:Int):List UInt8:=zFS.getD (pk_ c 5).toNat []
def Co (st:St)(a:Raw):St:=
 if pk_ a.kind 10=0∨pk_ a.kind 10=1 then(change st 35 (brN a.br) (uy a.path) (pk_ a.n 200-100) []).2
 else if pk_ a.kind 10=2 then(change st 61 (brN a.br) (uy a.path) 0 (G4 a.n)).2
 else if pk_ a.kind 10=3∨pk_ a.kind 10=4 then(change st 42 (brN a.br) (uy a.path) 0 (G4 a.n)).2
 else if pk_ a.kind 10=5 then(change st 45 (brN a.br) (uy a.path) 0 (G4 a.n)).2
 else if pk_ a.kind 10=6 then(change st 0 (brN a.br) (uy a.path) 0 []).2
 else if pk_ a.kind 10=7∨pk_ a.kind 10=8 then(commit st (brN a.br)).2
 else(joinB (commit st (brN a.br)).2 (brN a.br) (brN a.n)).2
def Cs (st:St)(l:List Raw):St:=(l.take 25).foldl Co st
end R
namespace R
def Y8 (v:Int):Leaf:={path:=[110],kind:=35,n:=v,text:=[],items:=[]}
def cnt (v:Int):List Leaf:=[Y8 v]
def Z0 (l:List (Int×List Nat)):List Cm:=l.map fun p=>{tree:=cnt p.1,parents:=p.2}
def y8 {α:Type}(f:Nat→α)(i:Nat)(v:α):Nat→α:=fun j=>if j=i then v else f j
def gR (k:Nat)(hd:Nat→Nat)(w:Nat→Int):List Br:=(List.range k).map fun i=>{name:=bgItem i,head:=hd i,work:=cnt (w i)}
def ym (l:List (Int×List Nat))(hd:Nat→Nat)(w:Nat→Int)(pk:List UInt8):St:={cms:=Z0 l,brs:=gR 5 hd w,packed:=pk}
def val (l:List (Int×List Nat))(m:Nat):Int:=((l[m-1]?).map (·.1)).getD 0
theorem Jd {α:Type}(f:Nat→α)(i:Nat):y8 f i (f i)=f:=by
 funext j
 unfold y8;split
 ·rename_i e;rw[e]
 ·rfl
theorem lt5 {i:Nat}(h:i<5):i=0∨i=1∨i=2∨i=3∨i=4:=by omega
section
variable (l:List (Int×List Nat))(hd:Nat→Nat)(w:Nat→Int)(pk:List UInt8)
theorem fe {i:Nat}(h:i<5):fnd (ym l hd w pk).brs (bgItem i)=i:=by
 rcases lt5 h with rfl|rfl|rfl|rfl|rfl<;>rfl
theorem Ul {i:Nat}(h:i<5):fndI (ym l hd w pk).brs (bgItem i)=i:=by
 rcases lt5 h with rfl|rfl|rfl|rfl|rfl<;>rfl
theorem cr {i:Nat}(h:i<5):(ym l hd w pk).brs[i]? =some {name:=bgItem i,head:=hd i,work:=cnt (w i)}:=by
 rcases lt5 h with rfl|rfl|rfl|rfl|rfl<;>rfl
theorem Oa {i:Nat}(h:i<5):workOf (ym l hd w pk) (bgItem i)=cnt (w i):=by
 unfold workOf;rw[fe l hd w pk h,cr l hd w pk h];rfl
theorem GS {i:Nat}(h:i<5):headOf (ym l hd w pk) (bgItem i)=hd i:=by
 unfold headOf;rw[fe l hd w pk h,cr l hd w pk h];rfl
theorem FZ {i:Nat}(h:i<5)(g:Nat)(v:Int):(gR 5 hd w).set i {name:=bgItem i,head:=g,work:=cnt v}=gR 5 (y8 hd i g) (y8 w i v):=by
 rcases lt5 h with rfl|rfl|rfl|rfl|rfl<;>rfl
theorem Od {m:Nat}(h:1≤m)(h2:m≤l.length):treeOf (ym l hd w pk) m=cnt (val l m):=by
 unfold treeOf val ym Z0;rw[if_neg (by omega),List.getElem?_map,j0d (by omega)];rfl
theorem UV {m:Nat}(h:1≤m)(h2:m≤l.length):treeC (Z0 l) m=cnt (val l m):=by
 unfold treeC val Z0;rw[if_neg (by omega),List.getElem?_map,j0d (by omega)];rfl
end
theorem vH (v:Int):Written (cnt v)=110::32::35::(Lib.itoa v++ [10]):=by
 unfold cnt Written line written Y8;simp
theorem VJ (a b:Int):Written (cnt a)=Written (cnt b)↔a=b:=by
 rw[vH,vH];constructor
 ·intro h
  simp only[List.cons.injEq,true_and]at h;exact KF _ _ (List.append_cancel_right h)
 ·intro h;rw[h]
theorem C7 (v n:Int)(h1:v+n≤1000000000)(h2: -1000000000≤v+n):addV (cnt v) (at_ (cnt v) [110]) [110] n=(0,Y8 (v+n)):=by
 have e:at_ (cnt v) [110]=Y8 v:=rfl;rw[e];unfold addV;rw[if_neg (by simp[Y8]),show blocked (cnt v) [110]=false from rfl,if_neg (by simp),if_neg (by simp only[Y8];omega),if_neg (by simp[Y8])];rfl
theorem Gt:isPath [110]=true:=by decide+kernel
theorem Fq (l:List (Int×List Nat))(hd:Nat→Nat)(w:Nat→Int)(pk:List UInt8){i:Nat}(h:i<5)(n:Int)(h1:w i+n≤1000000000)(h2: -1000000000≤w i+n):
  change (ym l hd w pk) 35 (bgItem i) [110] n []=(0,ym l hd (y8 w i (w i+n)) pk):=by
 unfold change;rw[Ul l hd w pk h,if_neg (by omega),Gt,if_neg (by simp),Oa l hd w pk h];have e:valV 35 (cnt (w i)) (at_ (cnt (w i)) [110]) [110] n []=(0,Y8 (w i+n)):=by
  unfold valV;rw[if_neg (by decide),if_neg (by decide),if_pos rfl];exact C7 _ _ h1 h2
 rw[e,if_pos rfl,fe l hd w pk h];have e2:set (cnt (w i)) (Y8 (w i+n))=cnt (w i+n):=rfl;rw[e2];unfold setWork;rw[cr l hd w pk h];have e3:=FZ hd w h (hd i) (w i+n);rw[Jd]at e3;exact congrArg (fun b=>((0:Int),({cms:=Z0 l,brs:=b,packed:=pk}:St))) e3
theorem oY (l:List (Int×List Nat))(p:Int×List Nat):Z0 l++ [{tree:=cnt p.1,parents:=p.2}]=Z0 (l++ [p]):=by
 unfold Z0;rw[List.map_append];rfl
theorem ua (l:List (Int×List Nat))(p:Int×List Nat){m:Nat}(h1:1≤m)(h:m≤l.length):val (l++ [p]) m=val l m:=by
 unfold val;rw[List.getElem?_append_left (by omega)]
theorem K7 (l:List (Int×List Nat))(p:Int×List Nat):val (l++ [p]) (l.length+1)=p.1:=by
 unfold val;rw[List.getElem?_append_right (by omega)];simp
theorem FD (l:List (Int×List Nat))(hd:Nat→Nat)(w:Nat→Int)(pk:List UInt8){i:Nat}(h:i<5)(v:Int)(ps:List Nat):
  ∃a0,down (ym l hd w pk) (bgItem i) {tree:=cnt v,parents:=ps}=ym (l++ [(v,ps)]) (y8 hd i (l.length+1)) (y8 w i v) a0 :=by
 unfold down setHead keepC;have e1:(ym l hd w pk).cms=Z0 l:=rfl;have e2:(Z0 l).length=l.length:=by simp[Z0]
 simp only[e1];rw[oY l (v,ps),e2];have e3:treeOf {cms:=Z0 (l++ [(v,ps)]),brs:=(ym l hd w pk).brs,packed:=(ym l hd w pk).packed++record 67 (bodyC {tree:=cnt v,parents:=ps})} (l.length+1)=cnt v:=by
  have:=Od (l++ [(v,ps)]) hd w ((ym l hd w pk).packed++record 67 (bodyC {tree:=cnt v,parents:=ps})) (m:=l.length+1) (by omega) (by simp);rw[K7]at this;exact this
 rw[e3,fe l hd w pk h,show(ym l hd w pk).brs=gR 5 hd w from rfl,FZ hd w h];exact⟨_,rfl⟩
theorem Fp (l:List (Int×List Nat))(hd:Nat→Nat)(w:Nat→Int)(pk:List UInt8){i:Nat}(h:i<5)(h1:1≤hd i)(h2:hd i≤l.length)(a1:l.length<60):
  (w i=val l (hd i)∧commit (ym l hd w pk) (bgItem i)=((0,9),ym l hd w pk))∨
  (w i≠val l (hd i)∧∃a0,commit (ym l hd w pk) (bgItem i)=((((l.length+1:Nat):Int),0),ym (l++ [(w i,[hd i])]) (y8 hd i (l.length+1)) w a0)):=by
 unfold commit;rw[Ul l hd w pk h,if_neg (by omega),Oa l hd w pk h,GS l hd w pk h,Od l hd w pk h1 h2];by_cases e:w i=val l (hd i)
 ·exact .inl ⟨e,if_pos ((VJ _ _).2 e)⟩
 ·refine .inr ⟨e,?_⟩
  have e2:(ym l hd w pk).cms.length=l.length:=by simp[ym,Z0]
  rw[if_neg (fun h=>e ((VJ _ _).1 h)),e2,if_neg (by omega)];unfold parsOf;rw[if_neg (by omega)];obtain⟨a0,h4⟩:=FD l hd w pk h (w i) [hd i];refine⟨a0,?_⟩;rw[h4,Jd]
structure YE (l:List (Int×List Nat))(hd:Nat→Nat)(κ:Nat→Nat)(v0:Int)(live:Nat→Prop):Prop where
 first:l[0]? =some (v0,[])
 par:∀m,2≤m→m≤l.length→∃p,l[m-1]? =some p∧p.2≠ []∧∀q∈p.2,1≤q∧q<m∧(q=1∨κ q=κ m)
 head:∀i,live i→1≤hd i∧hd i≤l.length∧(hd i=1∨κ (hd i)=i)
section
variable {l:List (Int×List Nat)}{hd:Nat→Nat}{κ:Nat→Nat}{v0:Int}{live:Nat→Prop}
theorem YE.pars (h:YE l hd κ v0 live)(m:Nat):parsC (Z0 l) m=[]∨(2≤m∧m≤l.length∧parsC (Z0 l) m≠ []∧∀q∈parsC (Z0 l) m,1≤q∧q<m∧(q=1∨κ q=κ m)):=by
 unfold parsC Z0;rw[List.getElem?_map];by_cases h0:m≤1
 ·rw[show m-1=0 by omega,h.first]
  exact .inl rfl
 ·by_cases h1:m≤l.length
  ·obtain⟨p,e,h2,h3⟩:=h.par m (by omega) h1
   rw[e];exact .inr ⟨by omega,h1,h2,h3⟩
  ·rw[List.getElem?_eq_none (by omega)]
   exact .inl rfl
theorem YE.wf (h:YE l hd κ v0 live):WfC (Z0 l):=by
 intro i hi p hp;have:=h.pars (i+1);unfold parsC at this;rw[Nat.add_sub_cancel,j0d hi]at this;rcases this with e|⟨_,_,_,h4⟩
 ·have e2:(Z0 l)[i].parents=[]:=e
  rw[e2]at hp;simp at hp
 ·have:=h4 p hp
  omega
theorem qR:(Z0 l).length=l.length:=by simp[Z0]
theorem YE.mark1 (h:YE l hd κ v0 live)(n:Nat):1≤n→n≤l.length→mark (Z0 l) n 1=true:=by
 induction n using Nat.strongRecOn with
 |_ n ih=>
  intro h1 h2;by_cases h3:n=1
  ·subst h3;exact YV 1 (by decide)
  ·rcases h.pars n with e|⟨_,_,h5,h6⟩
   ·obtain⟨p,e1,e2,_⟩:=h.par n (by omega) h2
    unfold parsC Z0 at e;rw[List.getElem?_map,e1]at e;exact absurd e e2
   ·obtain⟨q,hq⟩:=List.exists_mem_of_ne_nil _ h5
    have h7:=h6 q hq;have h8:=ih q h7.2.1 h7.1 (by omega);refine KA h.wf n q 1 (by rw[qR];exact h2) ?_ h8;exact Vi (parsC (Z0 l)) h.wf.lt (Z0 l).length _ n h1 (by rw[qR];exact h2) (YV n h1) q hq
theorem YE.markK (h:YE l hd κ v0 live)(n j:Nat)(hj:mark (Z0 l) n j=true):j=1∨κ j=κ n:=by
 refine vh (parsC (Z0 l)) (fun j=>j=1∨κ j=κ n) (fun m hm p hp=> ?_) (Z0 l).length (fun j=>decide (j=n∧0<n)) (fun j hj=> ?_) j hj
 ·rcases h.pars m with e|⟨h2,_,_,h6⟩
  ·rw[e]at hp;simp at hp
  ·have:=h6 p hp
   rcases hm with rfl|hm
   ·omega
   ·rcases this.2.2 with e|e
    ·exact .inl e
    ·exact .inr (e.trans hm)
 ·rw[decide_eq_true_eq]at hj
  exact .inr (by rw[hj.1])
theorem Gz {m:List Nat}(h1:m.Pairwise (·< ·))(h2:∀x,x∈m↔x=1):m=[1]:=by
 match m with
 |[]=>have:=(h2 1).2 rfl;simp at this
 |[x]=>rw[(h2 x).1 (by simp)]
 |x::y::r=>
  have e1:=(h2 x).1 (by simp);have e2:=(h2 y).1 (by simp);have:=List.rel_of_pairwise_cons h1 (List.mem_cons_self (a:=y) (l:=r));omega
theorem YE.lat (h:YE l hd κ v0 live){i j:Nat}(hi:live i)(hj:live j)(a4:i≠j)(h1:hd i≠1)(h2:hd j≠1):latC (Z0 l) (hd i) (hd j)=[1]:=by
 obtain⟨a1,a2,a3⟩:=h.head i hi;obtain⟨b1,b2,b3⟩:=h.head j hj;have hc:∀x,comm (Z0 l) (hd i) (hd j) x=true→x=1:=by
  intro x hx;unfold comm at hx;rw[Bool.and_eq_true]at hx;rcases h.markK _ _ hx.1 with e|e
  ·exact e
  ·rcases h.markK _ _ hx.2 with e' |e'
   ·exact e'
   ·exfalso
    have h5:=a3.resolve_left h1;have h6:=b3.resolve_left h2;omega
 have a0:comm (Z0 l) (hd i) (hd j) 1=true:=by
  unfold comm;rw[h.mark1 _ a1 a2,h.mark1 _ b1 b2];rfl
 refine Gz (jJ _ _) fun x=> ?_
 rw[vD,xk];constructor
 ·rintro⟨_,_,h3,_⟩;exact hc x h3
 ·rintro rfl
  refine⟨j0a _,?_,a0,fun m hm _ h4=> ?_⟩
  ·rw[qR];omega
  ·have:=hc m h4;omega
theorem YE.base (h:YE l hd κ v0 live){i j:Nat}(hi:live i)(hj:live j)(a0:i≠j)(h1:hd i≠1)(h2:hd j≠1):baseC (Z0 l) (hd i) (hd j)=(cnt v0,0):=by
 show togL (baseF (Z0 l) (hd i)) (Z0 l) (latC (Z0 l) (hd i) (hd j))=_;rw[h.lat hi hj a0 h1 h2];have:=h.head i hi;show(treeC (Z0 l) 1,(0:Int))=_;rw[UV l (j0a _) (by omega)];unfold val;rw[h.first];rfl
end
theorem v8 (a b:Int):same (Y8 a) (Y8 b)=true↔a=b:=by
 unfold same;rw[if_neg (by simp[Y8])];unfold written Y8;rw[if_pos rfl,if_pos rfl,beq_iff_eq];constructor
 ·intro h;exact KF _ _ (List.cons.inj h).2
 ·intro h;rw[h]
theorem co (a b c:Int)(h1:b+c-a≤1000000000)(h2: -1000000000≤b+c-a):joinedV (Y8 a) (Y8 b) (Y8 c)=(Y8 (b+c-a),0):=by
 unfold joinedV;by_cases e1:b=a
 ·rw[if_pos ((v8 _ _).2 e1)]
  rw[show b+c-a=c by omega]
 rw[if_neg (fun h=>e1 ((v8 _ _).1 h))];by_cases e2:c=a
 ·rw[if_pos ((v8 _ _).2 e2)]
  rw[show b+c-a=b by omega]
 rw[if_neg (fun h=>e2 ((v8 _ _).1 h)),if_neg (by simp[Y8]),if_neg (by simp[Y8]),if_neg (by simp[Y8]),if_pos (show(Y8 b).kind=35 from rfl)];unfold counterJ baseN;rw[if_pos (show(Y8 a).kind=35 from rfl),if_neg (by simp only[Y8];omega)];rfl
theorem cp (a b c:Int)(h1:b+c-a≤1000000000)(h2: -1000000000≤b+c-a):joinT (cnt a) (cnt b) (cnt c)=(cnt (b+c-a),0):=by
 have e:allP (cnt a) (cnt b) (cnt c)=[[110]]:=rfl;have ev:valJ (cnt a) (cnt b) (cnt c) [110]=(Y8 (b+c-a),0):=co a b c h1 h2;unfold joinT;rw[e];unfold joinP errJ outJ leafJ;simp only[List.find?_cons,List.find?_nil,ev,decide_true,Bool.not_true,Option.map_none,Option.getD_none,List.flatMap_cons,List.flatMap_nil,List.append_nil];rw[if_neg (by simp),if_neg (by simp[Y8])];rfl
end R
namespace R
def cP (l:List (Int×List Nat))(hd:Nat→Nat)(w:Nat→Int)(live:Nat→Prop):Prop:=∀i,live i→w i=val l (hd i)
section
variable {l:List (Int×List Nat)}{hd:Nat→Nat}{κ:Nat→Nat}{v0:Int}{live:Nat→Prop}
theorem YE.val1 (h:YE l hd κ v0 live):val l 1=v0:=by
 unfold val;rw[h.first];rfl
theorem YE.less (h:YE l hd κ v0 live)(a0 :Nat→Prop)(hl:∀i,a0 i→live i):YE l hd κ v0 a0 :=⟨h.first,h.par,fun i hi=>h.head i (hl i hi)⟩
theorem YE.commit (h:YE l hd κ v0 live){i:Nat}(hi:live i)(v:Int):∃κ',YE (l++ [(v,[hd i])]) (y8 hd i (l.length+1)) κ' v0 live:=by
 obtain⟨a1,a2,a3⟩:=h.head i hi;have h0:0<l.length:=by omega
 refine⟨y8 κ (l.length+1) i,?_,fun m h1 h2=> ?_,fun j hj=> ?_⟩
 ·rw[List.getElem?_append_left h0];exact h.first
 ·rw[List.length_append,List.length_singleton]at h2
  by_cases hm:m≤l.length
  ·obtain⟨p,e,e2,e3⟩:=h.par m h1 hm
   refine⟨p,by rw[List.getElem?_append_left (by omega)];exact e,e2,fun q hq=> ?_⟩;have:=e3 q hq;refine⟨this.1,this.2.1,?_⟩;unfold y8;rw[if_neg (by omega),if_neg (by omega)];exact this.2.2
  ·have e:m=l.length+1:=by omega
   subst e;refine⟨(v,[hd i]),by rw[List.getElem?_append_right (by omega)];simp,by simp,fun q hq=> ?_⟩;have e:q=hd i:=by simpa using hq
   subst e;refine⟨a1,by omega,?_⟩;rcases a3 with e|e
   ·exact .inl e
   ·right
    unfold y8;rw[if_neg (by omega),if_pos rfl];exact e
 ·have b:=h.head j hj
  rw[List.length_append,List.length_singleton];unfold y8;by_cases a0:j=i
  ·subst a0
   simp
  ·rw[if_neg a0,if_neg (by omega)]
   exact⟨b.1,by omega,b.2.2⟩
theorem cZ (h:YE l hd κ v0 live)(w:Nat→Int)(pk:List UInt8)(hD:cP l hd w live){i:Nat}(h0:live 0)(hi:live i)(a9:i≠0)(a8:i<5)(b0:l.length<60)
  (b1:w 0+w i-v0≤1000000000)(b2: -1000000000≤w 0+w i-v0):
  ∃n l' a6 κ' a7,joinB (ym l hd w pk) (bgItem 0) (bgItem i)=((n,0),ym l' a6 (y8 w 0 (w 0+w i-v0)) a7)∧YE l' a6 κ' v0 (fun j=>live j∧j≠i)∧cP l' a6 (y8 w 0 (w 0+w i-v0)) (fun j=>live j∧j≠i)∧l'.length≤l.length+1:=by
 obtain⟨a1,a2,a3⟩:=h.head 0 h0;obtain⟨c1,c2,c3⟩:=h.head i hi;have d0:=hD 0 h0;have di:=hD i hi;have a5:(ym l hd w pk).cms=Z0 l:=rfl;have e:joinB (ym l hd w pk) (bgItem 0) (bgItem i)=joinH (ym l hd w pk) (bgItem 0) (hd 0) (hd i):=by
  unfold joinB;rw[Ul l hd w pk (i:=0) (by decide),Ul l hd w pk a8,if_neg (by omega),Oa l hd w pk (i:=0) (by decide),GS l hd w pk (i:=0) (by decide),GS l hd w pk a8,Od l hd w pk a1 a2,d0,if_neg (fun h=>h rfl)]
 rw[e];unfold joinH;rw[a5];by_cases k1:mark (Z0 l) (hd 0) (hd i)=true
 ·have a4:hd i=1:=by
   rcases h.markK _ _ k1 with e|e
   ·exact e
   ·have:=vF h.wf _ _ k1
    rcases c3 with c3|c3
    ·exact c3
    ·rcases a3 with a3|a3
     ·omega
     ·omega
  rw[if_pos (.inr k1)];have ew:y8 w 0 (w 0+w i-v0)=w:=by
   have:w i=v0:=by rw[di,a4];exact h.val1
   rw[this,show w 0+v0-v0=w 0 by omega,Jd]
  rw[ew];exact⟨_,l,hd,κ,pk,rfl,h.less _ fun j hj=>hj.1,fun j hj=>hD j hj.1,by omega⟩
 ·rw[if_neg (fun h=>h.elim (fun h=>by omega) k1)]
  have a4:hd i≠1:=fun e=>k1 (by rw[e];exact h.mark1 _ a1 a2)
  have ki:=c3.resolve_left a4;by_cases k2:mark (Z0 l) (hd i) (hd 0)=true
  ·have a0:hd 0=1:=by
    rcases h.markK _ _ k2 with e|e
    ·exact e
    ·rcases a3 with a3|a3
     ·exact a3
     ·omega
   rw[if_pos (.inr k2)];have ev:w 0+w i-v0=val l (hd i):=by
    have:w 0=v0:=by rw[d0,a0];exact h.val1
    omega
   rw[ev];refine⟨((hd i:Nat):Int),l,y8 hd 0 (hd i),fun m=>if κ m=i then 0 else κ m,(setHead (ym l hd w pk) (bgItem 0) (hd i)).packed,?_,⟨h.first,fun m h1 h2=> ?_,fun j hj=> ?_⟩,fun j hj=> ?_,by omega⟩
   ·refine congrArg _ ?_
    unfold setHead;rw[Od l hd w pk c1 c2,fe l hd w pk (i:=0) (by decide),show(ym l hd w pk).brs=gR 5 hd w from rfl,FZ hd w (by decide)];rfl
   ·obtain⟨p,e,e2,e3⟩:=h.par m h1 h2
    refine⟨p,e,e2,fun q hq=> ?_⟩;have:=e3 q hq;refine⟨this.1,this.2.1,?_⟩;rcases this.2.2 with e|e
    ·exact .inl e
    ·right;simp only[e]
   ·unfold y8
    by_cases j0:j=0
    ·subst j0
     rw[if_pos rfl];exact⟨c1,c2,.inr (by simp only[ki,if_true])⟩
    ·rw[if_neg j0]
     have b:=h.head j hj.1;refine⟨b.1,b.2.1,?_⟩;rcases b.2.2 with e|e
     ·exact .inl e
     ·right;simp only[e];rw[if_neg hj.2]
   ·unfold y8
    by_cases j0:j=0
    ·rw[if_pos j0,if_pos j0]
    ·rw[if_neg j0,if_neg j0];exact hD j hj.1
  ·rw[if_neg (fun h=>h.elim (fun h=>by omega) k2)]
   have a0:hd 0≠1:=fun e=>k2 (by rw[e];exact h.mark1 _ c1 c2)
   have k0:=a3.resolve_left a0;have ej:joinC (ym l hd w pk).cms (hd 0) (hd i)=(cnt (w 0+w i-v0),0):=by
    rw[a5];unfold joinC;rw[h.base h0 hi (Ne.symm a9) a0 a4,if_neg (by simp),UV l a1 a2,UV l c1 c2,←d0,←di];exact cp _ _ _ b1 b2
   unfold joinN;rw[ej,if_neg (by simp),a5,qR,if_neg (by omega)];obtain⟨a7,e4⟩:=FD l hd w pk (i:=0) (by decide) (w 0+w i-v0) [hd 0,hd i];refine⟨((l.length+1:Nat):Int),l++ [(w 0+w i-v0,[hd 0,hd i])],y8 hd 0 (l.length+1),y8 (fun m=>if κ m=i then 0 else κ m) (l.length+1) 0,a7,by rw[e4],⟨?_,fun m h1 h2=> ?_,fun j hj=> ?_⟩,fun j hj=> ?_,by simp⟩
   ·rw[List.getElem?_append_left (by omega)];exact h.first
   ·rw[List.length_append,List.length_singleton]at h2
    by_cases hm:m≤l.length
    ·obtain⟨p,e,e2,e3⟩:=h.par m h1 hm
     refine⟨p,by rw[List.getElem?_append_left (by omega)];exact e,e2,fun q hq=> ?_⟩;have:=e3 q hq;refine⟨this.1,this.2.1,?_⟩;unfold y8;rw[if_neg (by omega),if_neg (by omega)];rcases this.2.2 with e|e
     ·exact .inl e
     ·right;simp only[e]
    ·have e:m=l.length+1:=by omega
     subst e;refine⟨(w 0+w i-v0,[hd 0,hd i]),by rw[List.getElem?_append_right (by omega)];simp,by simp,fun q hq=> ?_⟩;have e:q=hd 0∨q=hd i:=by simpa using hq
     rcases e with rfl|rfl
     ·refine⟨a1,by omega,.inr ?_⟩
      unfold y8;rw[if_neg (by omega),if_pos rfl];simp only[k0,ite_self]
     ·refine⟨c1,by omega,.inr ?_⟩
      unfold y8;rw[if_neg (by omega),if_pos rfl];simp only[ki,if_true]
   ·rw[List.length_append,List.length_singleton]
    by_cases j0:j=0
    ·subst j0
     simp[y8]
    ·have b:=h.head j hj.1
     simp only[y8,if_neg j0];refine⟨b.1,by omega,?_⟩;rw[if_neg (by omega)];rcases b.2.2 with e|e
     ·exact .inl e
     ·right;rw[e,if_neg hj.2]
   ·by_cases j0:j=0
    ·subst j0
     simp only[y8,if_true];rw[K7]
    ·have b:=h.head j hj.1
     simp only[y8,if_neg j0];rw[ua l _ b.1 b.2.1];exact hD j hj.1
end
def forkS (v0:Int)(k:Nat)(pk:List UInt8):St:={cms:=Z0 [(v0,[])],brs:=gR k (fun _=>1) (fun _=>v0),packed:=pk}
theorem fork5 (v0:Int){k:Nat}(h1:1≤k)(h5:k<5)(pk:List UInt8):∃a0,made (forkS v0 k pk) (bgItem k) [97] true=(0,forkS v0 (k+1) a0):=by
 rcases(by omega:k=1∨k=2∨k=3∨k=4)with rfl|rfl|rfl|rfl<;>exact⟨_,rfl⟩
theorem cS (v0:Int):YE [(v0,[])] (fun _=>1) (fun i=>i) v0 (fun i=>i<5):=⟨rfl,fun m h1 h2=>by simp at h2;omega,fun i _=>⟨j0a _,j0a _,.inl rfl⟩⟩
def sm1:St:=(made bg0 [97] [] false).2
theorem add5 (v:Int)(h0:0<v)(h1:v≤2000):∃pk,change sm1 35 [97] [110] v []=(0,{cms:=[],brs:=[{name:=[97],head:=0,work:=cnt v}],packed:=pk}):=by
 unfold change;rw[show fndI sm1.brs [97]=0 from rfl,if_neg (by decide),Gt,if_neg (by simp),show workOf sm1 [97]=[]from rfl];have e:valV 35 [] (at_ [] [110]) [110] v []=(0,Y8 v):=by
  unfold valV;rw[if_neg (by decide),if_neg (by decide),if_pos rfl];unfold addV;rw[show at_ [] [110]=none [110]from rfl,if_neg (by simp[none]),show blocked [] [110]=false from rfl,if_neg (by simp),if_neg (by simp only[none];omega),if_neg (by simp)];simp[none,Y8]
 rw[e,if_pos rfl];exact⟨_,rfl⟩
theorem commit0 (v:Int)(pk:List UInt8):∃a0,commit {cms:=[],brs:=[{name:=[97],head:=0,work:=cnt v}],packed:=pk} [97]=((1,0),forkS v 1 a0):=by
 unfold commit;rw[show fndI [({name:=[97],head:=0,work:=cnt v}:Br)] [97]=0 from rfl,if_neg (by decide)];have hw:¬Written (cnt v)=Written []:=by rw[vH];intro h;cases h
 rw[show workOf {cms:=[],brs:=[{name:=[97],head:=0,work:=cnt v}],packed:=pk} [97]=cnt v from rfl,show headOf {cms:=[],brs:=[{name:=[97],head:=0,work:=cnt v}],packed:=pk} [97]=0 from rfl,show treeOf {cms:=[],brs:=[{name:=[97],head:=0,work:=cnt v}],packed:=pk} 0=[]from rfl,if_neg hw];exact⟨_,rfl⟩
end R
