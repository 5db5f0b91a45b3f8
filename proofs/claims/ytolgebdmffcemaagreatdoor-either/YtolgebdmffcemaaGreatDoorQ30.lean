import Derived.Test.YtolgebdmffcemaaGreatDoorQ29
import Derived.Test.YtolgebdmffcemaaGreatDoorQ21
import Derived.Test.YtolgebdmffcemaaGreatDoorQ09
import Derived.Test.YtolgebdmffcemaaGreatDoorQ27
set_option linter.all false
set_option maxHeartbeats 20000000
set_option maxRecDepth 1000000
open List renaming length_append→mB,length_cons→mC,getElem?_map→rN,size_toArray→sE,length_nil→mS,push_toArray→sJ,append_toArray→sL,nil_append→mJ,cons_append→lN,take_succ_cons→IP,take_zero→IQ,drop_succ_cons→IR,drop_zero→IS
open Go.World renaming cell?_of_block→pU
open Go.Proofs.Tryz renaming prog→rJ,func202→IM,func70→IN,func153→IT,f153→IU,results47→IV,results103→IW
open Nat renaming reduceAdd→sF,reduceSub→sG,zero_add→iX
open Array renaming replicate_succ→sH,replicate_zero→sI
namespace Go.Proofs.YtolgebdmffcemaaGreatDoor
open Go.RowKit Go Go.Conc
def opC (k wi n m:Int)(s t u:List UInt8):Array Value:= #[.int .i64 k,.int .i64 wi,.int .i64 n,.int .i64 m,.string ⟨s.toArray⟩,.string ⟨t.toArray⟩,.string ⟨u.toArray⟩]
def Ce (K:Nat)(L:List SP):Prop:=∀(j:Nat) (h:j<L.length),L[j].sx=L[j].sy∧L[j].sy.packed.length≤K
def Goes (w w' :World)(h0 Wb:Nat)(len nm la K:Nat):Prop:=∃O L' names nums last,LW w' h0 Wb O L' names nums last∧L'.length=len∧Ce K L' ∧names.length≤nm∧last≤la∧Below h0 w w'
theorem yP (st:R.St)(kind:Int)(a0 path:List UInt8)(n:Int)(text:List UInt8):(R.change st kind a0 path n text).2.packed=st.packed:=by
 unfold R.change;split
 ·rfl
 ·split
  ·rfl
  ·split
   ·rfl
   ·rfl
theorem CB (c:UInt8)(b:List UInt8):(R.record c b).length=b.length+4:=by simp[R.record,R.recHead]
theorem Kn (st:R.St)(name fr:List UInt8)(a0:Bool):(R.made st name fr a0).2.packed.length≤st.packed.length+20:=by
 unfold R.made;split
 ·simp
 ·rename_i hn
  have hl:name.length≤8:=ZK name (by simpa using hn);split
  ·simp
  ·split
   ·simp
   ·split
    ·simp
    ·simp only[R.headNew,mB,CB,mC];omega


def Fine (w0 wr:World)(h0 Wb c:Nat)(len:Nat):Prop:=∃O L names nums last,LW wr h0 Wb O L names nums last∧L.length=len∧Ce (20*c) L∧names.length≤9*c∧last≤c∧Below h0 w0 wr
structure dE (k wi n:Int)(s t u:List UInt8):Prop where
 w1:wi≤9223372036854775807
 w2: -9223372036854775808≤wi
 n1:n≤9223372036854775807
 n2: -9223372036854775808≤n
 s:s.length≤maxLen
 t:t.length≤maxLen
 u:u.length≤maxLen
structure OpL where
 k:Int
 wi:Int
 n:Int
 m:Int
 s:List UInt8
 t:List UInt8
 u:List UInt8
def OpL.ok (o:OpL):Prop:=dE o.k o.wi o.n o.s o.t o.u
def OpL.cells (o:OpL):List Value:=(opC o.k o.wi o.n o.m o.s o.t o.u).toList
def dC (l:List OpL):List Value:=l.flatMap OpL.cells
section
variable {w:World}{M O:Nat→Prop}{B:Nat}{st:R.St}(T:Nat→Question→Nat)(d:Nat)
theorem kl.re {p:BrP}(h:kl w M p):kl (Go.Proofs.YtolgebdmffcemaaGreatDoor.re w T d) M p:=⟨h.c0,h.c1,h.c2,h.fr,h.work⟩
theorem UP.re {pk:List UInt8}{bv cv pv:Value}{LB:List BrP}(h:UP w O B pk bv cv LB pv):UP (Go.Proofs.YtolgebdmffcemaaGreatDoor.re w T d) O B pk bv cv LB pv:=⟨h.c2,h.row,h.rowO⟩
theorem PSx.re {bv cv:Value}{LB:List BrP}{LCm:List (R.Cm×Value×Value)}(h:PSx w M O B st bv cv LB LCm):PSx (Go.Proofs.YtolgebdmffcemaaGreatDoor.re w T d) M O B st bv cv LB LCm:=
 ⟨h.sub,h.lt,h.own,h.c0,h.c1,h.fr,h.brs,h.row,h.rowO,fun p hp=>(h.at_ p hp).re T d,h.blk,h.dist,h.cms,h.crow,h.crowO,h.ctree,h.cpar,by obtain⟨pv,hp⟩:=h.pk;exact⟨pv,hp.re T d⟩⟩
theorem PS.re (h:PS w M O B st):PS (Go.Proofs.YtolgebdmffcemaaGreatDoor.re w T d) M O B st:=by
 obtain⟨bv,cv,LB,LCm,h⟩:=h;exact⟨bv,cv,LB,LCm,h.re T d⟩
theorem Zy.re (h:Zy w):Zy (Go.Proofs.YtolgebdmffcemaaGreatDoor.re w T d):=⟨h.mx,h.tab,h.size⟩
end
theorem zf.below {w w' :World}(h:zf w w'):Below w.heap.size w (Go.Proofs.YtolgebdmffcemaaGreatDoor.re w' w.tape w'.drawn):=⟨h.os,rfl,h.output,h.size,h.block⟩
structure bz (h0:Nat)(w w' :World):Prop where
 os:w'.os=w.os
 output:w'.output=w.output
 size:w.heap.size≤w'.heap.size
 block:∀k,k<h0→w'.heap[k]? =w.heap[k]?
def Fn (w0 wr:World)(h0 Wb c:Nat)(len:Nat):Prop:=∃O L names nums last,LW wr h0 Wb O L names nums last∧L.length=len∧Ce (300000*c) L∧names.length≤9*c∧last≤c∧bz h0 w0 wr
theorem zf.refl (w:World):zf w w:=⟨rfl,rfl,j0a _,fun _ _=>rfl⟩
theorem zf.trans {w w1 w2:World}(h:zf w w1)(k:zf w1 w2):zf w w2:=⟨k.os.trans h.os,k.output.trans h.output,j0f h.size k.size,fun b hb=>(k.block b (j0b hb h.size)).trans (h.block b hb)⟩
theorem zf.cell {w w' :World}(h:zf w w'){p:Addr}(hp:p.block<w.heap.size):w'.cell? p=w.cell? p:=pU (w:=w) (h.block _ hp)
theorem zf.of_below {w w' :World}(h:Below w.heap.size w w'):zf w w' :=⟨h.os,h.output,h.size,h.block⟩
theorem zf.kept {w W W' :World}{O:Nat→Prop}(h:zf w W)(k:ze O W W')(hO:∀b,O b→w.heap.size≤b):zf w W' :=⟨k.os.trans h.os,k.output.trans h.output,j0f h.size k.size,fun b hb=>(k.block b (j0b hb h.size) (fun e=>by have:=hO b e;omega)).trans (h.block b hb)⟩
theorem zf.alloc {w W:World}(h:zf w W)(o:Obj):zf w (W.alloc o):=h.trans (zf.of_below ((j0g _ _).alloc (j0a _) o))
theorem Xo {w w' :World}{base:Nat}{e:TypeId}{size:Nat}{v:Value}{n:Nat}{xs:List Value}(h:w.ownsRow base e size v n xs)(k:zf w w'):w'.ownsRow base e size v n xs:=ZO h fun g hg=>k.block g (h.lt g hg).2
theorem cell?_alloc_first (w:World)(v:Value)(t:TypeId):(w.alloc (.cells #[v] t)).cell? ⟨w.heap.size,0,none⟩=some v:=by simp
theorem Gi {W:World}{B g vc:Nat}{l:List Nat}(ho:W.ownsRow 0 3 1 (.slice (some ⟨g,0,none⟩) l.length vc) l.length (l.map Zv))(hc:W.cell? ⟨B,0,none⟩=some (.slice (some ⟨g,0,none⟩) l.length vc)):UO W B g vc l:=by
 refine⟨hc,fun j hj=> ?_⟩;obtain⟨a,c,hv,_,_,_,hs⟩:=zl ho;injection hv with e1 e2 e3
 subst e1;obtain⟨g',e,_,_,_,a0⟩:=hs _ rfl;injection e with e
 subst e;exact a0 j _ (by rw[rN,j0d hj];rfl)
def Kz (w:World)(l:List Nat)(v:Value)(w' :World):Prop:=(∃g vc,v= .slice (some ⟨g,0,none⟩) l.length vc∧w.heap.size≤g∧g<w'.heap.size)∧w'.ownsRow 0 3 1 v l.length (l.map Zv)∧zf w w'
theorem Kz.re {w:World}{l:List Nat}{v:Value}{w' :World}(h:Kz w l v w')(T:Nat→Question→Nat)(d:Nat):Kz w l v (Go.Proofs.YtolgebdmffcemaaGreatDoor.re w' T d):=⟨h.1,h.2.1,h.2.2.re T d⟩
def UT (w:World)(B:Nat)(cms:List R.Cm):Prop:=∀(W:World) (n:Nat),zf w W→1≤n→n≤cms.length→zO rJ 70 #[.pointer (some ⟨B,0,none⟩),.int .i64 (n:Int)] W (Kz W (zy cms n))
section
theorem Fu {w:World}{B cb a b:Nat}{cms:List R.Cm}(hw:WfC cms)(HH:UT w B cms)(d6:1≤a)(d7:a≤cms.length)(d8:1≤b)(c7:b≤cms.length)(hK:cms.length≤60)(c8:cb<w.heap.size)(c0:w.cell? ⟨cb,0,none⟩=some (.int .i64 (a:Int)))(c1:w.cell? ⟨cb,1,none⟩=some (.int .i64 (b:Int))):
  zO rJ 202 #[.pointer (some ⟨B,0,none⟩),.slice (some ⟨cb,0,none⟩) 2 2] w (Kz w (Zw cms a b)):=by
 have hP:=xT;have b7:=z6 HH;have d4:Hid (∀W,zf w W→W.cell? ⟨cb,0,none⟩=some (.int .i64 (a:Int))):=fun W hW=>(hW.cell (p:=⟨cb,0,none⟩) c8).trans c0
 have d5:Hid (∀W,zf w W→W.cell? ⟨cb,1,none⟩=some (.int .i64 (b:Int))):=fun W hW=>(hW.cell (p:=⟨cb,1,none⟩) c8).trans c1
 clear HH c0 c1;refine zS hP IM rfl ?_;have a1:ReC (zZ rJ Tryz.f202 (Kz w (Zw cms a b))):=ReC.body fun v w' T d h=>h.re T d
 simp only[Tryz.ntmps202,sE,mC,mS,sF,sG,sH,sI,sJ,sL,mJ,lN];refine z7 hP a1 fun T d=> ?_
 have HK:=z6 ((zf.refl w).re T d);generalize re w T d=W at*;go_wp2;refine z7 hP a1 fun T d=> ?_
 have a5 :=z6 (HK.out.re T d);clear HK;generalize re W T d=W1 at*;go_wp2;refine zw hP ?_;refine z7 hP a1.thenT fun T d=> ?_
 have HK:=z6 (a5.out.re T d);clear a5;generalize re W1 T d=W2 at*;go_wp2;refine yd hP ?_;refine GR hP ?_;refine z7 hP a1.thenT.inBlock.thenL fun T d=> ?_
 have a5 :=z6 (HK.out.re T d);clear HK;generalize re W2 T d=W3 at*;go_wp2;refine zw hP ?_;refine Y8 (t:=true) hP (by simp[Act.eval]) ?_;simp only[if_true];refine jb hP ?_;simp only[Exit.then];refine zw hP ?_;refine yd hP ?_;refine z7 hP a1.thenT.inBlock.thenL.thenT.inBlock fun T d=> ?_
 have HK:=z6 (a5.out.re T d);clear a5;generalize re W3 T d=W4 at*;have s0:=d4.out W4 HK.out;go_wp2;clear s0;refine zw hP ?_;refine zN hP 2 a1.thenT.inBlock.thenL.thenT.inBlock.thenT rfl rfl rfl IN (by decide) rfl fun T d=> ?_
 have a5 :=z6 (HK.out.re T d);clear HK;generalize re W4 T d=W5 at*;simp only[IP,IQ,IR,IS];go_wp2;refine⟨_,_,by simp[Act.eval],b7.out W5 a a5.out d6 d7,?_⟩;rintro v W6 ⟨⟨g0,v0,rfl,b2,a9⟩,ho,hk⟩ T d;have b8:=z6 ((a5.out.trans hk).re T d);have b9:Hid ((re W6 T d).ownsRow 0 3 1 (.slice (some ⟨g0,0,none⟩) (zy cms a).length v0) (zy cms a).length ((zy cms a).map Zv)):=ho;have d9:w.heap.size≤g0:=j0f a5.out.size b2;have b3 :g0<(re W6 T d).heap.size:=a9;clear a5 ho hk b2 a9;generalize re W6 T d=W7 at*;go_wp2;refine zg hP a1.thenT.inBlock.thenL.thenT.inBlock fun T d=> ?_
 have HK:Hid (zf w (re (W7.alloc (.cells #[.slice (some ⟨g0,0,none⟩) (zy cms a).length v0] 39)) T d)):=(b8.out.alloc _).re T d;have a2:Hid ((re (W7.alloc (.cells #[.slice (some ⟨g0,0,none⟩) (zy cms a).length v0] 39)) T d).ownsRow 0 3 1 (.slice (some ⟨g0,0,none⟩) (zy cms a).length v0) (zy cms a).length ((zy cms a).map Zv)):=b9.out.alloc _;have x0:(re (W7.alloc (.cells #[.slice (some ⟨g0,0,none⟩) (zy cms a).length v0] 39)) T d).cell? ⟨W7.heap.size,0,none⟩=some (.slice (some ⟨g0,0,none⟩) (zy cms a).length v0):=cell?_alloc_first _ _ _;have a3:g0<(re (W7.alloc (.cells #[.slice (some ⟨g0,0,none⟩) (zy cms a).length v0] 39)) T d).heap.size:=by show g0<(W7.alloc _).heap.size;simp;omega
 clear b8 b9;generalize re (W7.alloc (.cells #[.slice (some ⟨g0,0,none⟩) (zy cms a).length v0] 39)) T d=W8 at*;go_wp2;clear x0;refine zg hP a1.thenT.inBlock.thenL fun T d=> ?_
 have a0:=z6 (HK.out.re T d);have a4:Hid ((re W8 T d).ownsRow 0 3 1 (.slice (some ⟨g0,0,none⟩) (zy cms a).length v0) (zy cms a).length ((zy cms a).map Zv)):=a2.out;have a6:g0<(re W8 T d).heap.size:=a3;clear HK a2 a3 b3;generalize re W8 T d=W9 at*;go_wp2;refine Ve hP ?_;refine z7 hP a1.thenT.inBlock.thenL fun T d=> ?_
 have HK:=z6 (a0.out.re T d);have a2:Hid ((re W9 T d).ownsRow 0 3 1 (.slice (some ⟨g0,0,none⟩) (zy cms a).length v0) (zy cms a).length ((zy cms a).map Zv)):=a4.out;have a3:g0<(re W9 T d).heap.size:=a6;clear a0 a4 a6;generalize re W9 T d=Wa at*;go_wp2;refine zw hP ?_;refine Y8 (t:=true) hP (by simp[Act.eval]) ?_;simp only[if_true];refine jb hP ?_;simp only[Exit.then];refine zw hP ?_;refine yd hP ?_;refine z7 hP a1.thenT.inBlock.thenL.thenT.inBlock fun T d=> ?_
 have a0:=z6 (HK.out.re T d);have a4:Hid ((re Wa T d).ownsRow 0 3 1 (.slice (some ⟨g0,0,none⟩) (zy cms a).length v0) (zy cms a).length ((zy cms a).map Zv)):=a2.out;have a6:g0<(re Wa T d).heap.size:=a3;clear HK a2 a3;generalize re Wa T d=Wb at*;have s0:=d5.out Wb a0.out;go_wp2;clear s0;refine zw hP ?_;refine zN hP 2 a1.thenT.inBlock.thenL.thenT.inBlock.thenT rfl rfl rfl IN (by decide) rfl fun T d=> ?_
 have HK:=z6 (a0.out.re T d);have a2:Hid ((re Wb T d).ownsRow 0 3 1 (.slice (some ⟨g0,0,none⟩) (zy cms a).length v0) (zy cms a).length ((zy cms a).map Zv)):=a4.out;have a3:g0<(re Wb T d).heap.size:=a6;clear a0 a4 a6;generalize re Wb T d=Wc at*;simp only[IP,IQ,IR,IS];go_wp2;refine⟨_,_,by simp[Act.eval],b7.out Wc b HK.out d8 c7,?_⟩;rintro v Wd ⟨⟨g1,v1,rfl,b2,a9⟩,ho,hk⟩ T d;have a0:=z6 ((HK.out.trans hk).re T d);have a4:Hid ((re Wd T d).ownsRow 0 3 1 (.slice (some ⟨g0,0,none⟩) (zy cms a).length v0) (zy cms a).length ((zy cms a).map Zv)):=Xo a2.out (hk.re T d);have c6:Hid ((re Wd T d).ownsRow 0 3 1 (.slice (some ⟨g1,0,none⟩) (zy cms b).length v1) (zy cms b).length ((zy cms b).map Zv)):=ho;have a6:g0<(re Wd T d).heap.size:=j0b a3 hk.size;have e1 :g1<(re Wd T d).heap.size:=a9;have b4:g0≠g1:=by omega
 clear HK ho hk b2 a9 a3 a2;generalize re Wd T d=We at*;go_wp2;have e7:=j0f (XX cms a) hK;have e6:=j0f (XX cms b) hK;refine zg hP a1.thenT.inBlock.thenL.thenT.inBlock fun T d=> ?_
 have HK:Hid (zf w (re (We.alloc (.cells #[.slice (some ⟨g1,0,none⟩) (zy cms b).length v1] 39)) T d)):=(a0.out.alloc _).re T d;have a8:=FH 234 (enters_of Tryz.func234 (by kernel_rfl) rfl) (fun m=> !decide (m∈zy cms b)) (B:=We.heap.size) (b:=g1) (tc:=v1) (l2:=zy cms b) (fun W hT m=>F5 hT (by omega) m) (w:=re (We.alloc (.cells #[.slice (some ⟨g1,0,none⟩) (zy cms b).length v1] 39)) T d) (base:=0) (v:= .slice (some ⟨g0,0,none⟩) (zy cms a).length v0) (l:=zy cms a) (a4.out.alloc _) (by simp) (Gi (c6.out.alloc _) (cell?_alloc_first _ _ _)) (by show _<(We.alloc _).heap.size;simp) (by show _<(We.alloc _).heap.size;simp;omega) (fun e=>absurd (show g0=We.heap.size by injection e) (by omega)) (fun e=>b4 (by injection e)) (by omega);have a7:=z6 a8;have e3:g0<(re (We.alloc (.cells #[.slice (some ⟨g1,0,none⟩) (zy cms b).length v1] 39)) T d).heap.size:=by show g0<(We.alloc _).heap.size;simp;omega
 clear a0 a4 c6 a8;generalize re (We.alloc (.cells #[.slice (some ⟨g1,0,none⟩) (zy cms b).length v1] 39)) T d=Wf at*;go_wp2_with fail
 refine a7.out.mono ?_;rintro e Wg ⟨gb,v2,rfl,b1,ho,b5⟩;have e2:g0=gb:=by injection b1
 subst e2;have d3:zf w Wg:=HK.out.kept b5 (fun k hk=>by
  have c9 :some g0=some k:=hk;injection c9 with c9
  omega)
 have b6:Hid ((zy cms a).filter (fun m=> !!decide (m∈zy cms b))=Zw cms a b):=by
  show _=_;rw[←OJ hw a b c7];refine List.filter_congr fun m _=> ?_
  simp
 rw[b6.out]at ho⊢;have a0:=z6 d3;have a2:=z6 ho;have a3:g0<Wg.heap.size:=j0b e3 b5.size;clear b6 a7 d3 ho b5 b1 HK;go_wp2;refine zg hP a1.thenT.inBlock.thenL fun T d=> ?_
 have HK:=z6 (a0.out.re T d);have a4:Hid ((re Wg T d).ownsRow 0 3 1 (.slice (some ⟨g0,0,none⟩) (Zw cms a b).length v2) (Zw cms a b).length ((Zw cms a b).map Zv)):=a2.out;have a6:g0<(re Wg T d).heap.size:=a3;clear a0 a2 a3;generalize re Wg T d=Wh at*;go_wp2;refine Ve hP ?_;refine zg hP a1.thenT.inBlock.thenL fun T d=> ?_
 have a0:=z6 (HK.out.re T d);have a2:Hid ((re Wh T d).ownsRow 0 3 1 (.slice (some ⟨g0,0,none⟩) (Zw cms a b).length v2) (Zw cms a b).length ((Zw cms a b).map Zv)):=a4.out;have a3:g0<(re Wh T d).heap.size:=a6;clear HK a4 a6;generalize re Wh T d=Wi at*;go_wp2;refine z7 hP a1 fun T d=> ?_
 have HR:Hid (Kz w (Zw cms a b) (.slice (some ⟨g0,0,none⟩) (Zw cms a b).length v2) (re Wi T d)):=⟨⟨g0,v2,rfl,d9,a3⟩,a2.out,a0.out.re T d⟩
 clear a0 a2 a3;generalize re Wi T d=Wj at*;go_wp2;refine qa hP ?_;refine⟨rfl,.slice (some ⟨g0,0,none⟩) (Zw cms a b).length v2,fun W=> ?_,HR.out⟩;simp[results,Tryz.results202,go_sem]
end
def lenOf:Value→Nat
 | .slice _ n _=>n
 |_=>0
def at5 (a:Act):Nat:=lenOf (a.tmps.getD 5 undef)
def vm (w:World)(l:List Nat)(v:Value)(w' :World):Prop:=(∃va vc,v= .slice va l.length vc)∧w'.ownsRow w.heap.size 3 1 v l.length (l.map Zv)∧zf w w'
theorem vm.re {w:World}{l:List Nat}{v:Value}{w' :World}(h:vm w l v w')(T:Nat→Question→Nat)(d:Nat):vm w l v (Go.Proofs.YtolgebdmffcemaaGreatDoor.re w' T d):=⟨h.1,h.2.1,h.2.2.re T d⟩
def Ca (w:World)(B cb:Nat)(cms:List R.Cm)(tot:List Nat)(a:Act)(W:World):Prop:=
 ∃(left found:List Nat) (g lc:Nat) (fa:Option Addr) (fc:Nat) (u7 u8 u9 u10 u11 u12 u13 u14 u15 u16 u17 u18 u19 u20 u21 u22 u23 u24 u25 u26 u27:Value),
  a=⟨#[.pointer (some ⟨B,0,none⟩),.slice (some ⟨cb,0,none⟩) 2 2,undef,undef,.slice none 0 0,.slice (some ⟨g,0,none⟩) left.length lc,.slice fa found.length fc,u7,u8,u9,u10,u11,u12,u13,u14,u15,u16,u17,u18,u19,u20,u21,u22,u23,u24,u25,u26,u27,undef,undef,undef],[]⟩∧
  (∀x∈left,1≤x∧x≤cms.length)∧found++gT cms left=tot∧left.length+found.length≤60∧zf w W∧W.ownsRow 0 3 1 (.slice (some ⟨g,0,none⟩) left.length lc) left.length (left.map Zv)∧w.heap.size≤g∧g<W.heap.size∧
  W.ownsRow w.heap.size 3 1 (.slice fa found.length fc) found.length (found.map Zv)∧(∀k,(Value.slice fa found.length fc).ownBlock=some k→k≠g)
theorem Ca.re {w:World}{B cb:Nat}{cms:List R.Cm}{a2:List Nat}{a:Act}{W:World}(h:Ca w B cb cms a2 a W)(T:Nat→Question→Nat)(d:Nat):Ca w B cb cms a2 a (Go.Proofs.YtolgebdmffcemaaGreatDoor.re W T d):=by
 obtain⟨a1,a0,g,lc,fa,fc,u7,u8,u9,a3,a4,a5,a6,a7,a8,a9,b1,b2,b3,b4,b5,b6,b7,b8,b9,c6,c7,h1,h2,h3,h4,h5,h6⟩:=h;exact⟨a1,a0,g,lc,fa,fc,u7,u8,u9,a3,a4,a5,a6,a7,a8,a9,b1,b2,b3,b4,b5,b6,b7,b8,b9,c6,c7,h1,h2,h3,h4,h5.re T d,h6⟩
section
theorem Ft {w:World}{B cb a b:Nat}{cms:List R.Cm}(hw:WfC cms)(HH:UT w B cms)(j3:1≤a)(j4:a≤cms.length)(j5:1≤b)(g4:b≤cms.length)(hK:cms.length≤60)(d9:cb<w.heap.size)(c0:w.cell? ⟨cb,0,none⟩=some (.int .i64 (a:Int)))(c1:w.cell? ⟨cb,1,none⟩=some (.int .i64 (b:Int))):
  zO rJ 153 #[.pointer (some ⟨B,0,none⟩),.slice (some ⟨cb,0,none⟩) 2 2] w (vm w (R.latC cms a b)):=by
 have hP:=xT;have i9:=z6 HH;have g8:∀W,zf w W→zO rJ 202 #[.pointer (some ⟨B,0,none⟩),.slice (some ⟨cb,0,none⟩) 2 2] W (Kz W (Zw cms a b)):=fun W hW=>Fu hw (fun W2 n h2=>HH W2 n (hW.trans h2)) j3 j4 j5 g4 hK (j0b d9 hW.size) ((hW.cell (p:=⟨cb,0,none⟩) d9).trans c0) ((hW.cell (p:=⟨cb,1,none⟩) d9).trans c1)
 have e8:=z6 g8;have a4:Hid (∀x∈Zw cms a b,1≤x∧x≤cms.length):=fun x hx=>(VI _ _).1 (List.mem_filter.1 hx).1
 have f5:Hid ((Zw cms a b).length≤60):=by
  show _≤_;have h1:(Zw cms a b).length≤(zy cms a).length:=by rw[←OJ hw a b g4];exact List.length_filter_le _ _
  have:=XX cms a;omega
 have d8:Hid ((gT cms (Zw cms a b)).reverse=R.latC cms a b):=fA hw a b;clear HH c0 c1 g8;refine zS hP IT rfl ?_;have b5:ReC (zZ rJ IU (vm w (R.latC cms a b))):=ReC.body fun v w' T d h=>h.re T d
 simp only[Tryz.ntmps153,sE,mC,mS,sF,sG,sH,sI,sJ,sL,mJ,lN];refine z7 hP b5 fun T d=> ?_
 have HK:=z6 ((zf.refl w).re T d);generalize re w T d=W at*;go_wp2;refine zw hP ?_;refine zN hP 2 b5.thenT rfl rfl rfl IM (by decide) rfl fun T d=> ?_
 have a2 :=z6 (HK.out.re T d);clear HK;generalize re W T d=W1 at*;simp only[IP,IQ,IR,IS];go_wp2;refine⟨_,_,by simp[Act.eval],e8.out W1 a2.out,?_⟩;rintro v W2 ⟨⟨g0,v0,rfl,d4,a3⟩,ho,hk⟩ T d;have HK:=z6 ((a2.out.trans hk).re T d);have HO:=z6 (show(re W2 T d).ownsRow 0 3 1 (.slice (some ⟨g0,0,none⟩) (Zw cms a b).length v0) (Zw cms a b).length ((Zw cms a b).map Zv)from ho);have h0:w.heap.size≤g0:=j0f a2.out.size d4;have i6:g0<(re W2 T d).heap.size:=a3;clear a2 ho hk d4 a3 e8;generalize re W2 T d=W3 at*;go_wp2;refine z7 hP b5 fun T d=> ?_
 have a2 :=z6 (HK.out.re T d);have b1 :=z6 (show(re W3 T d).ownsRow 0 3 1 (.slice (some ⟨g0,0,none⟩) (Zw cms a b).length v0) (Zw cms a b).length ((Zw cms a b).map Zv)from HO.out);have i7:g0<(re W3 T d).heap.size:=i6;clear HK HO i6;generalize re W3 T d=W4 at*;go_wp2;refine zw hP ?_;refine yd hP ?_;refine jd hP (Ca w B cb cms (gT cms (Zw cms a b))) (fun a _=>at5 a) ?_ ?_
 ·exact⟨Zw cms a b,[],g0,v0,none,0,_,_,_,_,_,_,_,_,_,_,_,_,_,_,_,_,_,_,_,_,_,rfl,a4.out,rfl,by have:=f5.out;simpa using this,a2.out,b1.out,h0,i7,World.ownsRow_nil _ _ _ _,fun k hk=>by simp[Value.ownBlock]at hk⟩
 clear a2 b1 i7 h0 a4 f5;rintro a0 W5 ⟨e7,a1,g,lc,fa,fc,u7,u8,u9,l3,l4,l5,l6,l7,l8,l9,m0,m1,m2,m3,m4,m5,m6,m7,m8,m9,n3,rfl,g6,c9,a5,hk,ho,d4,a3,hf,g9⟩;have b6:∀(n0:Nat) (c:Code),ReC (Exit.then (fun a' w' =>Ca w B cb cms (gT cms (Zw cms a b)) a' w' ∧at5 a' <n0) (Exit.inBlock 0 (Exit.then (wpT rJ 153 c (zZ rJ IU (vm w (R.latC cms a b)))) (zZ rJ IU (vm w (R.latC cms a b)))))):=fun n0 c=>b5.thenT.inBlock.thenM fun a w T d ⟨h1,h6⟩=>⟨h1.re T d,h6⟩
 have f9:=z6 c9;have a4:=z6 g6;have HF:=z6 hf;have d7:=z6 g9;have HO:=z6 ho;have HK:=z6 hk;clear c9 g6 hf g9 ho hk
 cases e7 with
 |nil=>
  refine zg hP (b6 _ _) fun T d=> ?_
  have a2 :=z6 (HK.out.re T d);have a7 :=z6 (show(re W5 T d).ownsRow w.heap.size 3 1 (.slice fa a1.length fc) a1.length (a1.map Zv)from HF.out);clear HK HF HO a3;generalize re W5 T d=W6 at*;go_wp2;have e9:Hid (a1.reverse=R.latC cms a b):=by
   show _=_;rw[←d8.out,←f9.out];show _=(a1++ []).reverse;rw[List.append_nil]
  refine zg hP b5 fun T d=> ?_
  have HK:=z6 (a2.out.re T d);have c8:=bZ (w:=re W6 T d) (v:= .slice fa a1.length fc) (l:=a1) (by simp only[mS]at a5;omega) a7.out;have d3:Hid (∀k,(Value.slice fa a1.length fc).ownBlock=some k→w.heap.size≤k):=fun k hk=>(a7.out.lt k hk).1
  have b2:=z6 c8;clear a2 a7 c8;generalize re W6 T d=W7 at*;go_wp2_with fail
  refine b2.out.mono ?_;rintro e W8 ⟨rfl,a6,c6⟩;have HR:Hid (vm w (R.latC cms a b) (.slice fa a1.length fc) W8):=by
   rw[e9.out]at a6;have hl:a1.length=(R.latC cms a b).length:=by rw[←e9.out,List.length_reverse]
   exact⟨⟨fa,fc,by rw[hl]⟩,by rw[hl]at a6⊢;exact a6,HK.out.kept c6 (fun k hk=>d3.out k hk)⟩
  clear a6 c6 b2 HK;go_wp2;refine⟨rfl,.slice fa a1.length fc,fun W=> ?_,HR.out⟩;simp[results,Tryz.results153,go_sem]
 |cons x r=>
  have HX:Hid (∀W:World,W.ownsRow 0 3 1 (.slice (some ⟨g,0,none⟩) (x::r).length lc) (x::r).length ((x::r).map Zv)→W.cell? ⟨g,0,none⟩=some (.int .i64 (x:Int))):=fun W ho=>by
   obtain⟨a',c',hv,_,_,_,hs⟩:=zl ho;injection hv with e1 e2 e3
   subst e1;obtain⟨g',e,_,_,_,j6⟩:=hs _ rfl;injection e with e
   subst e;exact j6 0 _ rfl
  have hx:=a4.out x (by simp);have l0:a1.length+1≤60:=by rw[mC]at a5;omega
  refine zw hP ?_;refine zg hP (b6 _ _).thenT fun T d=> ?_
  have a2 :=z6 (HK.out.re T d);have a7 :=z6 (show(re W5 T d).ownsRow w.heap.size 3 1 (.slice fa a1.length fc) a1.length (a1.map Zv)from HF.out);have b1 :=z6 (show(re W5 T d).ownsRow 0 3 1 (.slice (some ⟨g,0,none⟩) (x::r).length lc) (x::r).length ((x::r).map Zv)from HO.out);have i0:g<(re W5 T d).heap.size:=a3;clear HK HF HO a3;generalize re W5 T d=W6 at*;go_wp2;refine yd hP ?_;refine z7 hP (b6 _ _).inBlock fun T d=> ?_
  have HK:=z6 (a2.out.re T d);have HF:=z6 (show(re W6 T d).ownsRow w.heap.size 3 1 (.slice fa a1.length fc) a1.length (a1.map Zv)from a7.out);have HO:=z6 (show(re W6 T d).ownsRow 0 3 1 (.slice (some ⟨g,0,none⟩) (x::r).length lc) (x::r).length ((x::r).map Zv)from b1.out);have a3:g<(re W6 T d).heap.size:=i0;clear a2 a7 b1 i0;generalize re W6 T d=W7 at*;have x0:=HX.out W7 HO.out;have k8:=HK.out.size;go_wp2_with (at_builtin;go_loud (refine UU _ (by rfl) _ _ 39 (by rfl) w.heap.size 3 (.int .i64 0) 1 8 Tryz.underlying39 XW (by rfl) (by decide) (HF.out.alloc _) _ 1 1 _ (by rfl) (yG _ _ _) (by rfl) (by rfl) (by intro u hu;simp at hu;subst hu;rfl) (by unfold maxLen;omega) (by omega) (by simp;omega) ?_))
  intro v' W8 a6 g7;have d3:Hid (∀k,(Value.slice fa a1.length fc).ownBlock=some k→w.heap.size≤k):=fun k hk=>(HF.out.lt k hk).1
  have k3:zf w W8∧W8.heap[g]? =W7.heap[g]?∧W7.heap.size+1≤W8.heap.size∧∀k,v'.ownBlock=some k→k≠g:=by
   have g3:(W7.alloc (Obj.cells #[.int .i64 (x:Int)] 3)).heap[g]? =W7.heap[g]? :=heap_alloc_old W7 _ a3;have i2:=HK.out.alloc (Obj.cells #[.int .i64 (x:Int)] 3);rcases g7 with⟨h1,h2⟩|⟨h1,h2⟩
   ·refine⟨i2.kept (O:=fun b=>(Value.slice fa a1.length fc).ownBlock=some b) ⟨h2.os,h2.tape,h2.output,h2.size,fun k hk hn=>h2.block k hk (fun e=>hn e.symm)⟩ (fun k hk=>d3.out k hk),?_,by simpa using h2.size,fun k hk=>d7.out k (by rw[←h1];exact hk)⟩
    rw[h2.block g (by simp;omega) (fun e=>d7.out g e.symm rfl)];exact g3
   ·refine⟨i2.kept (O:=fun _=>False) ⟨h2.os,h2.tape,h2.output,h2.size,fun k hk _=>h2.block k hk (by simp)⟩ (fun k hk=>hk.elim),?_,by simpa using h2.size,fun k hk=> ?_⟩
    ·rw[h2.block g (by simp;omega) (by simp)];exact g3
    ·rw[h1]at hk;injection hk with hk;omega
  obtain⟨c6,g5,k5,i4⟩:=k3;have f7:Hid (W8.ownsRow 0 3 1 (.slice (some ⟨g,0,none⟩) (x::r).length lc) (x::r).length ((x::r).map Zv)):=ZO HO.out (fun k hk=>by
   have a8 :some g=some k:=hk;injection a8 with a8
   rw[←a8];exact g5)
  have d6:Hid (W8.ownsRow w.heap.size 3 1 v' (a1++ [x]).length ((a1++ [x]).map Zv)):=by
   show World.ownsRow _ _ _ _ _ _ _;rw[mB,List.map_append];exact a6
  have f6:=z6 i4;have f3:=z6 c6;have i1:g<W8.heap.size:=by omega
  obtain⟨b3,b4,k7,_⟩:=zl d6.out;subst k7;clear a6 g7 c6 g5 i4 HK HF HO d3 d7 x0 k5 a3 k8;go_wp2;refine zw hP ?_;refine zN hP 4 (b6 _ _).inBlock.thenT rfl rfl rfl IN (by decide) rfl fun T d=> ?_
  have HK:=z6 (f3.out.re T d);have HF:=z6 (show(re W8 T d).ownsRow w.heap.size 3 1 (.slice b3 (a1++ [x]).length b4) (a1++ [x]).length ((a1++ [x]).map Zv)from d6.out);have HO:=z6 (show(re W8 T d).ownsRow 0 3 1 (.slice (some ⟨g,0,none⟩) (x::r).length lc) (x::r).length ((x::r).map Zv)from f7.out);have a3:g<(re W8 T d).heap.size:=i1;clear f3 d6 f7 i1;generalize re W8 T d=W9 at*;have x0:=HX.out W9 HO.out;simp only[IP,IQ,IR,IS];go_wp2;refine⟨_,_,by simp[Act.eval],i9.out W9 x HK.out hx.1 hx.2,?_⟩;rintro v Wa ⟨⟨g1,v1,rfl,e6,b8⟩,i5,b9⟩ T d;have f4:=z6 ((HK.out.trans b9).re T d);have f0:=z6 (show(re Wa T d).ownsRow w.heap.size 3 1 (.slice b3 (a1++ [x]).length b4) (a1++ [x]).length ((a1++ [x]).map Zv)from Xo HF.out (b9.re T d));have f8:=z6 (show(re Wa T d).ownsRow 0 3 1 (.slice (some ⟨g,0,none⟩) (x::r).length lc) (x::r).length ((x::r).map Zv)from Xo HO.out (b9.re T d));have g2:=z6 (show(re Wa T d).ownsRow 0 3 1 (.slice (some ⟨g1,0,none⟩) (zy cms x).length v1) (zy cms x).length ((zy cms x).map Zv)from i5);have k9:g<(re Wa T d).heap.size:=j0b a3 b9.size;have j8:g1<(re Wa T d).heap.size:=b8;have k2:g≠g1:=by omega
  clear HK HF HO i5 b9 e6 b8 a3 x0;generalize re Wa T d=Wb at*;go_wp2;have k4 :=j0f (XX cms x) hK;refine zg hP (b6 _ _).inBlock fun T d=> ?_
  have HK:Hid (zf w (re (Wb.alloc (.cells #[.slice (some ⟨g1,0,none⟩) (zy cms x).length v1] 39)) T d)):=(f4.out.alloc _).re T d;have HF:=z6 (show(re (Wb.alloc (.cells #[.slice (some ⟨g1,0,none⟩) (zy cms x).length v1] 39)) T d).ownsRow w.heap.size 3 1 (.slice b3 (a1++ [x]).length b4) (a1++ [x]).length ((a1++ [x]).map Zv)from f0.out.alloc _);have b7:=FH 204 (enters_of Tryz.func204 (by kernel_rfl) rfl) (fun m=>decide (m∈zy cms x)) (B:=Wb.heap.size) (b:=g1) (tc:=v1) (l2:=zy cms x) (fun W hT m=>F4 hT (by omega) m) (w:=re (Wb.alloc (.cells #[.slice (some ⟨g1,0,none⟩) (zy cms x).length v1] 39)) T d) (base:=0) (v:= .slice (some ⟨g,0,none⟩) (x::r).length lc) (l:=x::r) (f8.out.alloc _) (by simp) (Gi (g2.out.alloc _) (cell?_alloc_first _ _ _)) (by show _<(Wb.alloc _).heap.size;simp) (by show _<(Wb.alloc _).heap.size;simp;omega) (fun e=>absurd (show g=Wb.heap.size by injection e) (by omega)) (fun e=>k2 (by injection e)) (by omega);have a9:=z6 b7;have k6:g<(re (Wb.alloc (.cells #[.slice (some ⟨g1,0,none⟩) (zy cms x).length v1] 39)) T d).heap.size:=by show g<(Wb.alloc _).heap.size;simp;omega
  clear f4 f0 f8 g2 b7;generalize re (Wb.alloc (.cells #[.slice (some ⟨g1,0,none⟩) (zy cms x).length v1] 39)) T d=Wc at*;go_wp2_with fail
  refine a9.out.mono ?_;rintro e Wd ⟨gb,v2,rfl,c7,ho,d5⟩;have j9:g=gb:=by injection c7
  subst j9;have j0:=z6 (HK.out.kept d5 (fun k hk=>by
   have a8 :some g=some k:=hk;injection a8 with a8
   omega))
  have i8:Hid (Wd.ownsRow w.heap.size 3 1 (.slice b3 (a1++ [x]).length b4) (a1++ [x]).length ((a1++ [x]).map Zv)):=ZO HF.out (fun k hk=>d5.block k (HF.out.lt k hk).2 (fun e=>by
   have e' :some g=some k:=e;injection e' with e'
   exact f6.out k hk e'.symm))
  have j2:Hid ((x::r).filter (fun m=> !decide (m∈zy cms x))=Vn cms (x::r)):=rfl;rw[j2.out]at ho⊢;have j1:=z6 ho;have k1:g<Wd.heap.size:=j0b k6 d5.size;have i3:=jx hw (l:=x::r) (by simp) a4.out;clear ho d5 c7 HK HF a9;go_wp2;have j7:(a1++ [x]).length=a1.length+1:=by simp
  rw[←j7];refine⟨⟨Vn cms (x::r),a1++ [x],g,v2,b3,b4,_,_,_,_,_,_,_,_,_,_,_,_,_,_,_,_,_,_,_,_,_,rfl,fun y hy=>a4.out y (ku _ _ y hy),?_,?_,j0.out,j1.out,d4,k1,i8.out,f6.out⟩,?_⟩
  ·rw[←f9.out,fC hw x r a4.out];simp
  ·rw[mB];simp only[mC,mS]at a5 i3⊢;omega
  ·simpa[at5,lenOf]using i3
end
def dl (W:World)(l:List Nat)(v:Value)(w' :World):Prop:=w'.ownsRow 0 3 1 v l.length (l.map Zv)∧(∀g,v.ownBlock=some g→W.heap.size≤g)∧zf W w'
def g8 (w:World)(B:Nat)(cms:List R.Cm):Prop:=∀(W:World) (n:Nat),zf w W→n≤cms.length→zO rJ 70 #[.pointer (some ⟨B,0,none⟩),.int .i64 (n:Int)] W (dl W (zy cms n))
theorem g8.law {w:World}{B:Nat}{cms:List R.Cm}(hw:WfC cms)(h:g8 w B cms):UT w B cms:=fun W n hW h1 h2=>(h W n hW h2).mono fun v w' ⟨ho,hg,hk⟩=>by
 have hm:n∈zy cms n:=(xD hw h2 n).2 (Yx n h1);have a1:0<(zy cms n).length:=List.length_pos_of_mem hm;refine⟨?_,ho,hk⟩;obtain⟨a,c,rfl,_,_,hn,hs⟩:=zl ho
 cases a with
 |none=>have:=(hn rfl).1;omega
 |some ad=>
  obtain⟨g,rfl,_,a0,_⟩:=hs ad rfl;exact⟨g,c,rfl,hg g rfl,a0⟩
theorem PSx.keptM {w w' :World}{M O:Nat→Prop}{B:Nat}{st:R.St}{bv cv:Value}{LB:List BrP}{LCm:List (R.Cm×Value×Value)}(h:PSx w M O B st bv cv LB LCm)(hk:zf w w'):PSx w' M O B st bv cv LB LCm:=by
 have:=(h.below hk.below).re w'.tape w'.drawn;exact this
theorem gH (st:R.St):R.parents st=R.parsC st.cms:=rfl
theorem PSx.hist {w:World}{M O:Nat→Prop}{B:Nat}{st:R.St}{bv cv:Value}{LB:List BrP}{LCm:List (R.Cm×Value×Value)}(h:PSx w M O B st bv cv LB LCm)(hi:Inv st):g8 w B st.cms:=fun W n hW hn=>by
 have hx:=h.keptM hW;obtain⟨g,cap,a0⟩:=hx.tc;have:=GZ xT (w:=W) a0 hn hi.few (fun m h1 h2 p hp=>hi.wf.par m p hp) (fun m h1 h2=>by
  unfold R.parents;rw[j0d (by omega)];exact hi.two _ (j0c (by omega)))
 rw[gH,fP hi.wf n]at this;exact this
theorem oC {W:World}{v:Value}{l:List Nat}(ho:W.ownsRow 0 3 1 v l.length (l.map Zv))(hl:l.length≤100)(m:Nat):
  Calls rJ 84 #[v,.int .i64 (m:Int)] W fun e w' =>e= .returned (.bool (decide (m∈l)))∧w' =W:=by
 obtain⟨a,c,rfl,_,_,hn,hs⟩:=zl ho
 cases l with
 |nil=>exact(Tryz.slices_Contains_int_empty a c m W).mono fun e w' ⟨h1,h2⟩=>⟨by simpa using h1,h2⟩
 |cons x r=>
  cases a with
  |none=>have:=(hn rfl).1;simp at this
  |some ad=>
   obtain⟨g,rfl,_,_,_,a1⟩:=hs ad rfl;have:=Tryz.slices_Contains_int g 0 (x::r).length c ((x::r).map fun n:Nat=>(n:Int)) m W (by simp) (by omega) (fun j hj=>by
    have a0 :j<(x::r).length:=by simpa using hj
    rw[iX];refine a1 j _ ?_;rw[rN,j0d a0];rw[List.getD_eq_getElem?_getD,rN,j0d a0];rfl)
   rw[ke]at this;exact this
def Cc (w:World)(b:Bool)(v:Value)(w' :World):Prop:=v= .bool b∧zf w w'
section
theorem Cn {w:World}{B h c:Nat}{cms:List R.Cm}(hw:WfC cms)(HH:g8 w B cms)(hh:h≤cms.length)(hK:cms.length≤60):
  zO rJ 47 #[.pointer (some ⟨B,0,none⟩),.int .i64 (h:Int),.int .i64 (c:Int)] w (Cc w (decide (c=0∨R.mark cms h c=true))):=by
 have hP:=xT;have a2:=z6 HH;clear HH;refine zS hP Tryz.func47 rfl ?_;have a1:ReC (zZ rJ Tryz.f47 (Cc w (decide (c=0∨R.mark cms h c=true)))):=ReC.body fun v w' T d h=>⟨h.1,h.2.re T d⟩
 simp only[Tryz.ntmps47,sE,mC,mS,sF,sG,sH,sI,sJ,sL,mJ,lN];by_cases hc:c=0
 ·subst hc
  refine zg hP a1 fun T d=> ?_
  have HK:=z6 ((zf.refl w).re T d);generalize re w T d=W at*;go_wp2;refine⟨rfl,.bool true,fun W=> ?_,⟨by simp,HK.out⟩⟩;simp[results,IV,go_sem]
 ·have HD:Hid (R.mark cms h c=decide (c∈zy cms h)):=by
   show _=_;rw[Bool.eq_iff_iff,decide_eq_true_eq,xD hw hh]
  have q1:((c:Int)==0)=false:=by simp;omega
  refine z7 hP a1 fun T d=> ?_
  have HK:=z6 ((zf.refl w).re T d);generalize re w T d=W at*;go_wp2;refine zw hP ?_;refine GS hP 5 a1.thenT rfl rfl IN (by decide) rfl fun T d=> ?_
  have a0 :=z6 (HK.out.re T d);clear HK;generalize re W T d=W1 at*;simp only[IP,IQ,IR,IS];go_wp2;refine⟨by rfl,_,_,by simp[Act.eval],a2.out W1 h a0.out hh,?_⟩;rintro v W2 ⟨ho,hg,hk⟩ T d;have a3:=z6 ((a0.out.trans hk).re T d);have HC:=z6 (oC (W:=re W2 T d) ho (by have:=XX cms h;omega) c);clear a0 ho hg hk;generalize re W2 T d=W3 at*;go_wp2_with fail
  refine HC.out.mono ?_;rintro e W4 ⟨rfl,rfl⟩;go_wp2;refine qa hP ?_;refine⟨rfl,.bool (decide (c∈zy cms h)),fun W=> ?_,⟨by rw[←HD.out],a3.out⟩⟩;simp[results,IV,go_sem]
end
structure yT (mb:Nat)(w w' :World):Prop where
 os:w'.os=w.os
 output:w'.output=w.output
 size:w.heap.size≤w'.heap.size
 block:∀k,k<w.heap.size→k≠mb→w'.heap[k]? =w.heap[k]?
section
variable {mb:Nat}{w w1 w2:World}
theorem yT.re (h:yT mb w w1)(T:Nat→Question→Nat)(d:Nat):yT mb w (Go.Proofs.YtolgebdmffcemaaGreatDoor.re w1 T d):=⟨h.os,h.output,h.size,h.block⟩
theorem yT.trans (h:yT mb w w1)(k:yT mb w1 w2):yT mb w w2:=⟨k.os.trans h.os,k.output.trans h.output,j0f h.size k.size,fun b hb hn=>(k.block b (j0b hb h.size) hn).trans (h.block b hb hn)⟩
theorem zf.x (h:zf w w1)(mb:Nat):yT mb w w1:=⟨h.os,h.output,h.size,fun b hb _=>h.block b hb⟩
theorem yT.cell (h:yT mb w w1){p:Addr}(hp:p.block<w.heap.size)(hn:p.block≠mb):w1.cell? p=w.cell? p:=pU (w:=w) (h.block _ hp hn)
theorem yT.kept (h:yT mb w w1):ze (fun b=>b=mb) w (Go.Proofs.YtolgebdmffcemaaGreatDoor.re w1 w.tape w1.drawn):=⟨h.os,rfl,h.output,h.size,fun k hk hn=>h.block k hk hn⟩
theorem yT.of_kept (h:ze (fun b=>b=mb) w w1):yT mb w w1:=⟨h.os,h.output,h.size,fun k hk hn=>h.block k hk hn⟩
theorem PT.keptX {N:Nat→Prop}{v:Value}{t:List R.Leaf}(h:PT w N v t)(k:yT mb w w1)(hN:N mb):PT w1 N v t:=by
 have:PT (Go.Proofs.YtolgebdmffcemaaGreatDoor.re w1 w.tape w1.drawn) N v t:=PT.step h k.kept (fun b hb=>by rw[hb];exact hN) (fun b hb=> .inl hb);exact this
end
def ga (cms:List R.Cm)(W:World)(N:Nat→Prop)(E:List ((Nat×Nat)×Value)):Prop:=∀p∈E,(R.baseC cms p.1.1 p.1.2).2=0∧∃ta tc,p.2= .slice ta (R.baseC cms p.1.1 p.1.2).1.length tc∧PT W N (.slice ta (R.baseC cms p.1.1 p.1.2).1.length tc) (R.baseC cms p.1.1 p.1.2).1
theorem ga.keptX {cms:List R.Cm}{W W' :World}{N:Nat→Prop}{E:List ((Nat×Nat)×Value)}{mb:Nat}(h:ga cms W N E)(k:yT mb W W')(hN:N mb):ga cms W' N E:=fun p hp=>by
 obtain⟨h1,ta,tc,h2,h3⟩:=h p hp;exact⟨h1,ta,tc,h2,h3.keptX k hN⟩
structure RI (N O:Nat→Prop)(B mb:Nat)(st:R.St)(bv cv:Value)(LB:List BrP)(LCm:List (R.Cm×Value×Value))(W:World):Prop where
 ps:PSx W N O B st bv cv LB LCm
 lt:∀b,N b→b<W.heap.size
 mem:N mb
 own:¬O mb
 map:∃E,KA W mb E∧ga st.cms W N E
section
variable {N O:Nat→Prop}{B mb:Nat}{st:R.St}{bv cv:Value}{LB:List BrP}{LCm:List (R.Cm×Value×Value)}{W W' :World}
theorem RI.keptX (h:RI N O B mb st bv cv LB LCm W)(k:yT mb W W')(E:List ((Nat×Nat)×Value))(hm:KA W' mb E)(hE:ga st.cms W' N E):RI N O B mb st bv cv LB LCm W' :=by
 refine⟨?_,fun b hb=>j0b (h.lt b hb) k.size,h.mem,h.own,E,hm,hE⟩;have:=(h.ps.kept k.kept (fun b hb=>by rw[hb];exact⟨h.mem,h.own⟩) (M' :=N) (fun b hb=> .inl hb) h.ps.sub).re W'.tape W'.drawn;exact this
theorem KA.keptM {w w1:World}{mb:Nat}{E:List ((Nat×Nat)×Value)}(h:KA w mb E)(k:zf w w1):KA w1 mb E:=by
 obtain⟨es,c,h1,h2⟩:=h;exact⟨es,c,by rw[k.block mb (Array.getElem?_eq_some_iff.1 h1).1];exact h1,h2⟩
theorem RI.keptM (h:RI N O B mb st bv cv LB LCm W)(k:zf W W'):RI N O B mb st bv cv LB LCm W' :=by
 obtain⟨E,h1,h2⟩:=h.map;exact h.keptX (k.x mb) E (h1.keptM k) (h2.keptX (k.x mb) h.mem)
theorem RI.re (h:RI N O B mb st bv cv LB LCm W)(T:Nat→Question→Nat)(d:Nat):RI N O B mb st bv cv LB LCm (Go.Proofs.YtolgebdmffcemaaGreatDoor.re W T d):=h.keptM ((zf.refl W).re T d)
end
def yH (N O:Nat→Prop)(B mb:Nat)(st:R.St)(bv cv:Value)(LB:List BrP)(LCm:List (R.Cm×Value×Value))(W:World)(r:List R.Leaf×Int)(v:Value)(W' :World):Prop:=
 ∃ta tc,v= .tuple #[.slice ta r.1.length tc,.int .i64 r.2]∧PT W' N (.slice ta r.1.length tc) r.1∧RI N O B mb st bv cv LB LCm W' ∧yT mb W W'
theorem yH.re {N O:Nat→Prop}{B mb:Nat}{st:R.St}{bv cv:Value}{LB:List BrP}{LCm:List (R.Cm×Value×Value)}{W W' :World}{r:List R.Leaf×Int}{v:Value}(h:yH N O B mb st bv cv LB LCm W r v W')(T:Nat→Question→Nat)(d:Nat):yH N O B mb st bv cv LB LCm W r v (Go.Proofs.YtolgebdmffcemaaGreatDoor.re W' T d):=by
 obtain⟨ta,tc,h1,h2,h3,h4⟩:=h;exact⟨ta,tc,h1,h2,h3.re T d,h4.re T d⟩
section
theorem Co {N O:Nat→Prop}{B mb:Nat}{st:R.St}{bv cv:Value}{LB:List BrP}{LCm:List (R.Cm×Value×Value)}{w:World}(hi:Inv st)(hR:RI N O B mb st bv cv LB LCm w){a b:Nat}(g5:1≤a)(f4:a≤st.cms.length)(g6:1≤b)(g7:b≤st.cms.length)
  (e9:∀(W:World) (v:Value),RI N O B mb st bv cv LB LCm W→vm w (R.latC st.cms a b) v W→zO rJ 152 #[.agg #[.pointer (some ⟨B,0,none⟩),.map (some mb)],v] W (yH N O B mb st bv cv LB LCm W (R.togL (R.baseC st.cms) st.cms (R.latC st.cms a b)))):
  zO rJ 103 #[.agg #[.pointer (some ⟨B,0,none⟩),.map (some mb)],.int .i64 (a:Int),.int .i64 (b:Int)] w (yH N O B mb st bv cv LB LCm w (R.baseC st.cms a b)):=by
 have hP:=xT;have d7:=hi.few;refine zS hP Tryz.func103 rfl ?_;have a1:ReC (zZ rJ Tryz.f103 (yH N O B mb st bv cv LB LCm w (R.baseC st.cms a b))):=ReC.body fun v w' T d h=>h.re T d
 simp only[Tryz.ntmps103,sE,mC,mS,sF,sG,sH,sI,sJ,sL,mJ,lN];have a8:=z6 e9;have c7:Hid (R.baseC st.cms a b=R.togL (R.baseC st.cms) st.cms (R.latC st.cms a b)):=Jl hi.wf a b f4;clear e9;refine z7 hP a1 fun T d=> ?_
 have HR:=z6 (hR.re T d);have HK:Hid (zf w (re w T d)):=(zf.refl w).re T d;generalize re w T d=W at*;go_wp2;have f3:RI N O B mb st bv cv LB LCm (W.alloc (.cells #[.pointer (some ⟨B,0,none⟩),.map (some mb)] 152)):=HR.out.keptM (zf.of_below ((j0g _ _).alloc (j0a _) _));have f0:zf w (W.alloc (.cells #[.pointer (some ⟨B,0,none⟩),.map (some mb)] 152)):=HK.out.alloc _;have f8:W.heap.size<(W.alloc (.cells #[.pointer (some ⟨B,0,none⟩),.map (some mb)] 152)).heap.size:=by simp
 have y0:(W.alloc (.cells #[.pointer (some ⟨B,0,none⟩),.map (some mb)] 152)).cell? ⟨W.heap.size,0,none⟩=some (.pointer (some ⟨B,0,none⟩)):=by simp
 have y1:(W.alloc (.cells #[.pointer (some ⟨B,0,none⟩),.map (some mb)] 152)).cell? ⟨W.heap.size,1,none⟩=some (.map (some mb)):=by simp
 have f6:W.heap.size≠mb:=fun e=>by have:=HR.out.lt mb HR.out.mem;omega
 clear HR HK;generalize W.alloc (.cells #[.pointer (some ⟨B,0,none⟩),.map (some mb)] 152)=Wa at*;generalize W.heap.size=bx at*;refine z7 hP a1 fun T d=> ?_
 have HR:=z6 (f3.re T d);have HK:=z6 (f0.re T d);have x0:(re Wa T d).cell? ⟨bx,0,none⟩=some (.pointer (some ⟨B,0,none⟩)):=y0;have x1:(re Wa T d).cell? ⟨bx,1,none⟩=some (.map (some mb)):=y1;have a9 :bx<(re Wa T d).heap.size:=f8;clear f3 f0 f8 y0 y1;generalize re Wa T d=W1 at*;obtain⟨E,b2,b3⟩:=HR.out.map;rcases oG b2 (a,b) (by omega) (by omega)with⟨b5,g9⟩|⟨v,b5,b7⟩
 rotate_left
 ·obtain⟨hz,ta,tc,hv,b4⟩:=b3 _ b7
  simp only at hz hv b4;subst hv;have b6 :(Instr.lookup 150 (.map (some mb)) (.agg #[.int .i64 (a:Int),.int .i64 (b:Int)]) true).run rJ W1= .ok (.tuple #[.slice ta (R.baseC st.cms a b).1.length tc,.bool true]) W1:=b5;have a2:Hid (yH N O B mb st bv cv LB LCm w (R.baseC st.cms a b) (.tuple #[.slice ta (R.baseC st.cms a b).1.length tc,.int .i64 0]) W1):=⟨ta,tc,by rw[hz],b4,HR.out,HK.out.x mb⟩
  clear b5 b2 b3 b4 hz b7 HR HK a8 c7;go_wp2;refine⟨rfl,_,fun W=> ?_,a2.out⟩;simp[results,IW,go_sem]
 have b6 :(Instr.lookup 150 (.map (some mb)) (.agg #[.int .i64 (a:Int),.int .i64 (b:Int)]) true).run rJ W1= .ok (.tuple #[.slice none 0 0,.bool false]) W1:=b5;clear b5 b2 b3 g9 E;go_wp2;clear b6;refine zw hP ?_;have a3:∀(w:World) T d,(fun W' :World=>W'.cell? ⟨bx,0,none⟩=some (.pointer (some ⟨B,0,none⟩))∧W'.cell? ⟨bx,1,none⟩=some (.map (some mb))) w→(fun W' :World=>W'.cell? ⟨bx,0,none⟩=some (.pointer (some ⟨B,0,none⟩))∧W'.cell? ⟨bx,1,none⟩=some (.map (some mb))) (re w T d):=fun w T d h=>h
 have a0:Hid ((fun W' :World=>W'.cell? ⟨bx,0,none⟩=some (.pointer (some ⟨B,0,none⟩))∧W'.cell? ⟨bx,1,none⟩=some (.map (some mb))) W1):=⟨x0,x1⟩
 clear x0 x1;refine Vb hP (by kernel_rfl) a1.thenT (fun W' :World=>W'.cell? ⟨bx,0,none⟩=some (.pointer (some ⟨B,0,none⟩))∧W'.cell? ⟨bx,1,none⟩=some (.map (some mb))) a3 ?_;simp only[sE,mC,mS,sF,iX];co_applyP zh (i:=0) a1.thenT a3 rfl (by kernel_rfl) (by kernel_rfl) (by kernel_rfl) (by rfl)
 case hv=>
  intro W' hS K hK;obtain⟨s0,s1⟩:=hS;go_simp
  exact hK
 case hS=>exact a0.out
 try walk_nrm
 co_applyP zh (i:=1) a1.thenT a3 rfl (by kernel_rfl) (by kernel_rfl) (by kernel_rfl) (by rfl)
 case hv=>
  intro W' hS K hK;obtain⟨s0,s1⟩:=hS;go_simp
  exact hK
 case hS=>exact a0.out
 try walk_nrm
 co_applyP zh (i:=2) a1.thenT a3 rfl (by kernel_rfl) (by kernel_rfl) (by kernel_rfl) (by rfl)
 case hv=>
  intro W' hS K hK;obtain⟨s0,s1⟩:=hS;go_simp
  exact hK
 case hS=>exact a0.out
 try walk_nrm
 co_applyP zh (i:=3) a1.thenT a3 rfl (by kernel_rfl) (by kernel_rfl) (by kernel_rfl) (by rfl)
 case hv=>
  intro W' hS K hK;obtain⟨s0,s1⟩:=hS;go_simp
  exact hK
 case hS=>exact a0.out
 try walk_nrm
 co_applyP zh (i:=4) a1.thenT a3 rfl (by kernel_rfl) (by kernel_rfl) (by kernel_rfl) (by rfl)
 case hv=>
  intro W' hS K hK;obtain⟨s0,s1⟩:=hS;go_simp
  exact hK
 case hS=>exact a0.out
 try walk_nrm
 refine C5 (i:=5) (by kernel_rfl) rfl (by rfl) fun T d=>⟨.slice (some ⟨(re W1 T d).heap.size,0,none⟩) 2 2,(re W1 T d).alloc (.cells #[.int .i64 (a:Int),.int .i64 (b:Int)] 3),by unfold execOp;simp[go_sem,Act.eval],?_⟩
 have d5:=z6 ((HR.out.re T d).keptM (zf.of_below ((j0g _ _).alloc (j0a _) (.cells #[.int .i64 (a:Int),.int .i64 (b:Int)] 3))));have c8:=z6 ((HK.out.re T d).alloc (.cells #[.int .i64 (a:Int),.int .i64 (b:Int)] 3));have a5 :bx<((re W1 T d).alloc (.cells #[.int .i64 (a:Int),.int .i64 (b:Int)] 3)).heap.size:=by
  have:bx<(re W1 T d).heap.size:=a9;simp;omega
 have c9:Hid ((fun W' :World=>W'.cell? ⟨bx,0,none⟩=some (.pointer (some ⟨B,0,none⟩))∧W'.cell? ⟨bx,1,none⟩=some (.map (some mb))) ((re W1 T d).alloc (.cells #[.int .i64 (a:Int),.int .i64 (b:Int)] 3))):=by
  have f5:bx<(re W1 T d).heap.size:=a9;have f7:=(j0g (re W1 T d).heap.size (re W1 T d)).alloc (j0a _) (.cells #[.int .i64 (a:Int),.int .i64 (b:Int)] 3);exact⟨(f7.cell (p:=⟨bx,0,none⟩) f5).trans a0.out.1,(f7.cell (p:=⟨bx,1,none⟩) f5).trans a0.out.2⟩
 have f9:(re W1 T d).heap.size<((re W1 T d).alloc (.cells #[.int .i64 (a:Int),.int .i64 (b:Int)] 3)).heap.size:=by simp
 have k0:((re W1 T d).alloc (.cells #[.int .i64 (a:Int),.int .i64 (b:Int)] 3)).cell? ⟨(re W1 T d).heap.size,0,none⟩=some (.int .i64 (a:Int)):=by simp
 have k1:((re W1 T d).alloc (.cells #[.int .i64 (a:Int),.int .i64 (b:Int)] 3)).cell? ⟨(re W1 T d).heap.size,1,none⟩=some (.int .i64 (b:Int)):=by simp
 clear HR HK a0 a9;generalize(re W1 T d).alloc (.cells #[.int .i64 (a:Int),.int .i64 (b:Int)] 3)=W2 at*;generalize(re W1 T d).heap.size=cb at*;refine⟨c9.out,?_⟩;try walk_nrm
 refine Y7 (i:=6) (by kernel_rfl) rfl (by rfl) rfl (by simp[Act.eval]) IT (by decide) rfl (Ft hi.wf (g8.law hi.wf (d5.out.ps.hist hi)) g5 f4 g6 g7 d7 f9 k0 k1) ?_;rintro v3 W3 b1;have e7:=z6 (d5.out.keptM b1.2.2);have d8:=z6 (c8.out.trans b1.2.2);have a6 :bx<W3.heap.size:=j0b a5 b1.2.2.size;have d3:Hid ((fun W' :World=>W'.cell? ⟨bx,0,none⟩=some (.pointer (some ⟨B,0,none⟩))∧W'.cell? ⟨bx,1,none⟩=some (.map (some mb))) W3):=⟨(b1.2.2.cell (p:=⟨bx,0,none⟩) a5).trans c9.out.1,(b1.2.2.cell (p:=⟨bx,1,none⟩) a5).trans c9.out.2⟩
 have e6:Hid (vm w (R.latC st.cms a b) v3 W3):=by
  obtain⟨hf,ho,hk⟩:=b1;refine⟨hf,?_,c8.out.trans hk⟩;obtain⟨h1,h2⟩:=ho;refine⟨h1,?_⟩;rcases h2 with h2|⟨g,cap,g4,e1,e2,e3⟩
  ·exact .inl h2
  ·exact .inr ⟨g,cap,g4,e1,j0f c8.out.size e2,e3⟩
 clear d5 c8 c9 a5 b1 k0 k1 f9;refine⟨d3.out,?_⟩;try walk_nrm
 refine Y7 (i:=7) (by kernel_rfl) rfl (by rfl) rfl (by simp[Act.eval]) Tryz.func152 (by decide) rfl (a8.out W3 v3 e7.out e6.out) ?_;rintro v4 W4 ⟨ta,tc,rfl,b4,g2,a4⟩;have e8:=z6 g2;have d4:=z6 b4;have d9:=z6 ((d8.out.x mb).trans a4);have a0:Hid ((fun W' :World=>W'.cell? ⟨bx,0,none⟩=some (.pointer (some ⟨B,0,none⟩))∧W'.cell? ⟨bx,1,none⟩=some (.map (some mb))) W4):=⟨(a4.cell (p:=⟨bx,0,none⟩) a6 f6).trans d3.out.1,(a4.cell (p:=⟨bx,1,none⟩) a6 f6).trans d3.out.2⟩
 have d6 :bx<W4.heap.size:=j0b a6 a4.size;clear e7 d8 d3 e6 a6 b4 g2 a4 a8;rw[←c7.out]at d4⊢;refine⟨a0.out,?_⟩;try walk_nrm
 co_applyP zh (i:=8) a1.thenT a3 rfl (by kernel_rfl) (by kernel_rfl) (by kernel_rfl) (by rfl)
 case hv=>
  intro W' hS K hK;obtain⟨s0,s1⟩:=hS;go_simp
  exact hK
 case hS=>exact a0.out
 try walk_nrm
 co_applyP zh (i:=9) a1.thenT a3 rfl (by kernel_rfl) (by kernel_rfl) (by kernel_rfl) (by rfl)
 case hv=>
  intro W' hS K hK;obtain⟨s0,s1⟩:=hS;go_simp
  exact hK
 case hS=>exact a0.out
 try walk_nrm
 co_applyP zh (i:=10) a1.thenT a3 rfl (by kernel_rfl) (by kernel_rfl) (by kernel_rfl) (by rfl)
 case hv=>
  intro W' hS K hK;obtain⟨s0,s1⟩:=hS;go_simp
  exact hK
 case hS=>exact a0.out
 try walk_nrm
 co_applyP zh (i:=11) a1.thenT a3 rfl (by kernel_rfl) (by kernel_rfl) (by kernel_rfl) (by rfl)
 case hv=>
  intro W' hS K hK;obtain⟨s0,s1⟩:=hS;go_simp
  exact hK
 case hS=>exact a0.out
 try walk_nrm
 co_applyP zh (i:=12) a1.thenT a3 rfl (by kernel_rfl) (by kernel_rfl) (by kernel_rfl) (by rfl)
 case hv=>
  intro W' hS K hK;obtain⟨s0,s1⟩:=hS;go_simp
  exact hK
 case hS=>exact a0.out
 try walk_nrm
 refine YF (by kernel_rfl) ?_ _;simp only[Exit.then];refine zg hP a1 fun T d=> ?_
 have HR:=z6 (e8.out.re T d);have HK:=z6 (d9.out.re T d);have a7 :Hid (PT (re W4 T d) N (.slice ta (R.baseC st.cms a b).1.length tc) (R.baseC st.cms a b).1):=d4.out;have x0:(re W4 T d).cell? ⟨bx,0,none⟩=some (.pointer (some ⟨B,0,none⟩)):=a0.out.1;have x1:(re W4 T d).cell? ⟨bx,1,none⟩=some (.map (some mb)):=a0.out.2;clear e8 d9 d4 a0 d6;generalize re W4 T d=W5 at*;by_cases he:(R.baseC st.cms a b).2=0
 ·have q1:((R.baseC st.cms a b).2 !=0)=false:=by simp[he]
  obtain⟨E,b2,b3⟩:=HR.out.map;obtain⟨W6,E',g3,g1,c6,g0⟩:=oE b2 (a,b) (by omega) (by omega) (.slice ta (R.baseC st.cms a b).1.length tc);have h0 :(Instr.mapUpdate 150 (.map (some mb)) (.agg #[.int .i64 (a:Int),.int .i64 (b:Int)]) (.slice ta (R.baseC st.cms a b).1.length tc)).run rJ W5= .ok () W6:=g3;have a2:Hid (yH N O B mb st bv cv LB LCm w (R.baseC st.cms a b) (.tuple #[.slice ta (R.baseC st.cms a b).1.length tc,.int .i64 0]) W6):=by
   have a4:=yT.of_kept g0;have b9:=a7.out.keptX a4 HR.out.mem;refine⟨ta,tc,by rw[he],b9,HR.out.keptX a4 E' g1 fun p hp=> ?_,HK.out.trans a4⟩;rcases c6 p hp with rfl|hp
   ·exact⟨he,ta,tc,rfl,b9⟩
   ·exact b3.keptX a4 HR.out.mem p hp
  clear g3 b2 b3 g1 c6 g0 HR HK a7 c7 he;go_wp2;refine⟨rfl,_,fun W=> ?_,a2.out⟩;simp[results,IW,go_sem]
 ·have q1:((R.baseC st.cms a b).2 !=0)=true:=by simp[he]
  have a2:Hid (yH N O B mb st bv cv LB LCm w (R.baseC st.cms a b) (.tuple #[.slice none 0 0,.int .i64 (R.baseC st.cms a b).2]) W5):=by
   have b8:=F7 st.cms a b he;refine⟨none,0,by rw[b8];rfl,?_,HR.out,HK.out⟩;rw[b8];exact⟨[],rfl,⟨none,0,rfl,j0a _,by unfold maxLen;omega,fun h=>absurd h (Nat.lt_irrefl _)⟩,fun q hq=>by cases hq⟩
  clear HR HK a7 c7 he;go_wp2;refine⟨rfl,_,fun W=> ?_,a2.out⟩;simp[results,IW,go_sem]
end
