import Derived.Test.YtolgebdmffcemaaGreatDoorQ20
import Derived.Test.YtolgebdmffcemaaGreatDoorQ14
import Derived.Test.YtolgebdmffcemaaGreatDoorQ19
set_option linter.all false
set_option maxHeartbeats 20000000
set_option maxRecDepth 1000000
open Go renaming Value→eB,World→eX,Question→iC,undef→lS
open Go.RowKit renaming Below→tH
open List renaming length_append→nL,length_cons→nM,getElem?_map→sZ,size_toArray→tQ,length_nil→pC,push_toArray→tV,append_toArray→tX,nil_append→nV,cons_append→mJ,take_succ_cons→aX,take_zero→ME,drop_succ_cons→MF,drop_zero→MG,length_filter_le→pY,getD_eq_getElem?_getD→lB
open Go.Proofs.YtolgebdmffcemaaGreatDoor renaming re→mG
open Go.World renaming cell?_of_block→sD
open Go.Proofs.Tryz renaming prog→sU,func202→MC,func70→MD,func153→MH,f153→MI,results47→MJ,func103→MK,results103→ML,func152→MN,f152→MO,results152→MP,func64→MQ,results35→MR,results49→MS
open Nat renaming reduceAdd→tR,reduceSub→tS,zero_add→lQ,lt_irrefl→LE
open Array renaming replicate_succ→tT,replicate_zero→tU
namespace Go.Proofs.YtolgebdmffcemaaGreatDoor
open Go.RowKit Go Go.Conc
def opC (k wi n m:Int)(s t u:List UInt8):Array eB:= #[.int .i64 k,.int .i64 wi,.int .i64 n,.int .i64 m,.string ⟨s.toArray⟩,.string ⟨t.toArray⟩,.string ⟨u.toArray⟩]
def CC (K:Nat)(L:List SP):Prop:=∀(j:Nat) (h:j<L.length),L[j].sx=L[j].sy∧L[j].sy.packed.length≤K
def Goes (w w' :eX)(h0 Wb:Nat)(len nm la K:Nat):Prop:=∃O L' names nums last,LW w' h0 Wb O L' names nums last∧L'.length=len∧CC K L' ∧names.length≤nm∧last≤la∧tH h0 w w'
theorem yY (st:R.St)(kind:Int)(a0 path:List UInt8)(n:Int)(text:List UInt8):(R.change st kind a0 path n text).2.packed=st.packed:=by
 unfold R.change;split
 ·rfl
 ·split
  ·rfl
  ·split
   ·rfl
   ·rfl
theorem CZ (c:UInt8)(b:List UInt8):(R.record c b).length=b.length+4:=by simp[R.record,R.recHead]
theorem Kq (st:R.St)(name fr:List UInt8)(a0:Bool):(R.made st name fr a0).2.packed.length≤st.packed.length+20:=by
 unfold R.made;split
 ·simp
 ·rename_i hn
  have hl:name.length≤8:=ZN name (by simpa using hn);split
  ·simp
  ·split
   ·simp
   ·split
    ·simp
    ·simp only[R.headNew,nL,CZ,nM];omega


def Fine (w0 wr:eX)(h0 Wb c:Nat)(len:Nat):Prop:=∃O L names nums last,LW wr h0 Wb O L names nums last∧L.length=len∧CC (20*c) L∧names.length≤9*c∧last≤c∧tH h0 w0 wr
structure D4 (k wi n:Int)(s t u:List UInt8):Prop where
 w1:wi≤9223372036854775807
 w2: -9223372036854775808≤wi
 n1:n≤9223372036854775807
 n2: -9223372036854775808≤n
 s:s.length≤maxLen
 t:t.length≤maxLen
 u:u.length≤maxLen
structure OpL where
 k:Int
 wi:Int
 n:Int
 m:Int
 s:List UInt8
 t:List UInt8
 u:List UInt8
def OpL.ok (o:OpL):Prop:=D4 o.k o.wi o.n o.s o.t o.u
def OpL.cells (o:OpL):List eB:=(opC o.k o.wi o.n o.m o.s o.t o.u).toList
def D3 (l:List OpL):List eB:=l.flatMap OpL.cells
section
variable {w:eX}{M O:Nat→Prop}{B:Nat}{st:R.St}(T:Nat→iC→Nat)(d:Nat)
theorem ku.re {p:BrP}(h:ku w M p):ku (mG w T d) M p:=⟨h.c0,h.c1,h.c2,h.fr,h.work⟩
theorem o9.re {pk:List UInt8}{bv cv pv:eB}{LB:List BrP}(h:o9 w O B pk bv cv LB pv):o9 (mG w T d) O B pk bv cv LB pv:=⟨h.c2,h.row,h.rowO⟩
theorem PSx.re {bv cv:eB}{LB:List BrP}{LCm:List (R.Cm×eB×eB)}(h:PSx w M O B st bv cv LB LCm):PSx (mG w T d) M O B st bv cv LB LCm:=
 ⟨h.sub,h.lt,h.own,h.c0,h.c1,h.fr,h.brs,h.row,h.rowO,fun p hp=>(h.at_ p hp).re T d,h.blk,h.dist,h.cms,h.crow,h.crowO,h.ctree,h.cpar,by obtain⟨pv,hp⟩:=h.pk;exact⟨pv,hp.re T d⟩⟩
theorem PS.re (h:PS w M O B st):PS (mG w T d) M O B st:=by
 obtain⟨bv,cv,LB,LCm,h⟩:=h;exact⟨bv,cv,LB,LCm,h.re T d⟩
theorem Zp.re (h:Zp w):Zp (mG w T d):=⟨h.mx,h.tab,h.size⟩
end
theorem ze.below {w w' :eX}(h:ze w w'):tH w.heap.size w (mG w' w.tape w'.drawn):=⟨h.os,rfl,h.output,h.size,h.block⟩
structure b_ (h0:Nat)(w w' :eX):Prop where
 os:w'.os=w.os
 output:w'.output=w.output
 size:w.heap.size≤w'.heap.size
 block:∀k,k<h0→w'.heap[k]? =w.heap[k]?
def Fn (w0 wr:eX)(h0 Wb c:Nat)(len:Nat):Prop:=∃O L names nums last,LW wr h0 Wb O L names nums last∧L.length=len∧CC (300000*c) L∧names.length≤9*c∧last≤c∧b_ h0 w0 wr
theorem ze.refl (w:eX):ze w w:=⟨rfl,rfl,j0a _,fun _ _=>rfl⟩
theorem ze.trans {w w1 w2:eX}(h:ze w w1)(k:ze w1 w2):ze w w2:=⟨k.os.trans h.os,k.output.trans h.output,j0f h.size k.size,fun b hb=>(k.block b (j0b hb h.size)).trans (h.block b hb)⟩
theorem ze.cell {w w' :eX}(h:ze w w'){p:Addr}(hp:p.block<w.heap.size):w'.cell? p=w.cell? p:=sD (w:=w) (h.block _ hp)
theorem ze.of_below {w w' :eX}(h:tH w.heap.size w w'):ze w w' :=⟨h.os,h.output,h.size,h.block⟩
theorem ze.kept {w W W' :eX}{O:Nat→Prop}(h:ze w W)(k:zf O W W')(hO:∀b,O b→w.heap.size≤b):ze w W' :=⟨k.os.trans h.os,k.output.trans h.output,j0f h.size k.size,fun b hb=>(k.block b (j0b hb h.size) (fun e=>by have:=hO b e;omega)).trans (h.block b hb)⟩
theorem ze.alloc {w W:eX}(h:ze w W)(o:Obj):ze w (W.alloc o):=h.trans (ze.of_below ((j0g _ _).alloc (j0a _) o))
theorem yT {w w' :eX}{base:Nat}{e:TypeId}{size:Nat}{v:eB}{n:Nat}{xs:List eB}(h:w.ownsRow base e size v n xs)(k:ze w w'):w'.ownsRow base e size v n xs:=ZQ h fun g hg=>k.block g (h.lt g hg).2
theorem cell?_alloc_first (w:eX)(v:eB)(t:TypeId):(w.alloc (.cells #[v] t)).cell? ⟨w.heap.size,0,none⟩=some v:=by simp
theorem GE {W:eX}{B g vc:Nat}{l:List Nat}(ho:W.ownsRow 0 3 1 (.slice (some ⟨g,0,none⟩) l.length vc) l.length (l.map Zw))(hc:W.cell? ⟨B,0,none⟩=some (.slice (some ⟨g,0,none⟩) l.length vc)):o8 W B g vc l:=by
 refine⟨hc,fun j hj=> ?_⟩;obtain⟨a,c,hv,_,_,_,hs⟩:=zh ho;injection hv with e1 e2 e3
 subst e1;obtain⟨g',e,_,_,_,a0⟩:=hs _ rfl;injection e with e
 subst e;exact a0 j _ (by rw[sZ,j0d hj];rfl)
def KD (w:eX)(l:List Nat)(v:eB)(w' :eX):Prop:=(∃g vc,v= .slice (some ⟨g,0,none⟩) l.length vc∧w.heap.size≤g∧g<w'.heap.size)∧w'.ownsRow 0 3 1 v l.length (l.map Zw)∧ze w w'
theorem KD.re {w:eX}{l:List Nat}{v:eB}{w' :eX}(h:KD w l v w')(T:Nat→iC→Nat)(d:Nat):KD w l v (mG w' T d):=⟨h.1,h.2.1,h.2.2.re T d⟩
def om (w:eX)(B:Nat)(cms:List R.Cm):Prop:=∀(W:eX) (n:Nat),ze w W→1≤n→n≤cms.length→zF sU 70 #[.pointer (some ⟨B,0,none⟩),.int .i64 (n:Int)] W (KD W (zt cms n))
section
theorem FP {w:eX}{B cb a b:Nat}{cms:List R.Cm}(hw:WfC cms)(HH:om w B cms)(d6:1≤a)(d7:a≤cms.length)(d8:1≤b)(c7:b≤cms.length)(hK:cms.length≤60)(c8:cb<w.heap.size)(c0:w.cell? ⟨cb,0,none⟩=some (.int .i64 (a:Int)))(c1:w.cell? ⟨cb,1,none⟩=some (.int .i64 (b:Int))):
  zF sU 202 #[.pointer (some ⟨B,0,none⟩),.slice (some ⟨cb,0,none⟩) 2 2] w (KD w (Zx cms a b)):=by
 have hP:=xx;have b7:=z4 HH;have d4:Hid (∀W,ze w W→W.cell? ⟨cb,0,none⟩=some (.int .i64 (a:Int))):=fun W hW=>(hW.cell (p:=⟨cb,0,none⟩) c8).trans c0
 have d5:Hid (∀W,ze w W→W.cell? ⟨cb,1,none⟩=some (.int .i64 (b:Int))):=fun W hW=>(hW.cell (p:=⟨cb,1,none⟩) c8).trans c1
 clear HH c0 c1;refine zL hP MC rfl ?_;have a1:ReC (zZ sU Tryz.f202 (KD w (Zx cms a b))):=ReC.body fun v w' T d h=>h.re T d
 simp only[Tryz.ntmps202,tQ,nM,pC,tR,tS,tT,tU,tV,tX,nV,mJ];refine z7 hP a1 fun T d=> ?_
 have HK:=z4 ((ze.refl w).re T d);generalize re w T d=W at*;go_wp2;refine z7 hP a1 fun T d=> ?_
 have a5 :=z4 (HK.out.re T d);clear HK;generalize re W T d=W1 at*;go_wp2;refine zn hP ?_;refine z7 hP a1.thenT fun T d=> ?_
 have HK:=z4 (a5.out.re T d);clear a5;generalize re W1 T d=W2 at*;go_wp2;refine ZK hP ?_;refine fp hP ?_;refine z7 hP a1.thenT.inBlock.thenL fun T d=> ?_
 have a5 :=z4 (HK.out.re T d);clear HK;generalize re W2 T d=W3 at*;go_wp2;refine zn hP ?_;refine yR (t:=true) hP (by simp[Act.eval]) ?_;simp only[if_true];refine Vf hP ?_;simp only[Exit.then];refine zn hP ?_;refine ZK hP ?_;refine z7 hP a1.thenT.inBlock.thenL.thenT.inBlock fun T d=> ?_
 have HK:=z4 (a5.out.re T d);clear a5;generalize re W3 T d=W4 at*;have s0:=d4.out W4 HK.out;go_wp2;clear s0;refine zn hP ?_;refine zP hP 2 a1.thenT.inBlock.thenL.thenT.inBlock.thenT rfl rfl rfl MD (by decide) rfl fun T d=> ?_
 have a5 :=z4 (HK.out.re T d);clear HK;generalize re W4 T d=W5 at*;simp only[aX,ME,MF,MG];go_wp2;refine⟨_,_,by simp[Act.eval],b7.out W5 a a5.out d6 d7,?_⟩;rintro v W6 ⟨⟨g0,v0,rfl,b2,a9⟩,ho,hk⟩ T d;have b8:=z4 ((a5.out.trans hk).re T d);have b9:Hid ((re W6 T d).ownsRow 0 3 1 (.slice (some ⟨g0,0,none⟩) (zt cms a).length v0) (zt cms a).length ((zt cms a).map Zw)):=ho;have d9:w.heap.size≤g0:=j0f a5.out.size b2;have b3 :g0<(re W6 T d).heap.size:=a9;clear a5 ho hk b2 a9;generalize re W6 T d=W7 at*;go_wp2;refine zg hP a1.thenT.inBlock.thenL.thenT.inBlock fun T d=> ?_
 have HK:Hid (ze w (re (W7.alloc (.cells #[.slice (some ⟨g0,0,none⟩) (zt cms a).length v0] 39)) T d)):=(b8.out.alloc _).re T d;have a2:Hid ((re (W7.alloc (.cells #[.slice (some ⟨g0,0,none⟩) (zt cms a).length v0] 39)) T d).ownsRow 0 3 1 (.slice (some ⟨g0,0,none⟩) (zt cms a).length v0) (zt cms a).length ((zt cms a).map Zw)):=b9.out.alloc _;have x0:(re (W7.alloc (.cells #[.slice (some ⟨g0,0,none⟩) (zt cms a).length v0] 39)) T d).cell? ⟨W7.heap.size,0,none⟩=some (.slice (some ⟨g0,0,none⟩) (zt cms a).length v0):=cell?_alloc_first _ _ _;have a3:g0<(re (W7.alloc (.cells #[.slice (some ⟨g0,0,none⟩) (zt cms a).length v0] 39)) T d).heap.size:=by show g0<(W7.alloc _).heap.size;simp;omega
 clear b8 b9;generalize re (W7.alloc (.cells #[.slice (some ⟨g0,0,none⟩) (zt cms a).length v0] 39)) T d=W8 at*;go_wp2;clear x0;refine zg hP a1.thenT.inBlock.thenL fun T d=> ?_
 have a0:=z4 (HK.out.re T d);have a4:Hid ((re W8 T d).ownsRow 0 3 1 (.slice (some ⟨g0,0,none⟩) (zt cms a).length v0) (zt cms a).length ((zt cms a).map Zw)):=a2.out;have a6:g0<(re W8 T d).heap.size:=a3;clear HK a2 a3 b3;generalize re W8 T d=W9 at*;go_wp2;refine Vk hP ?_;refine z7 hP a1.thenT.inBlock.thenL fun T d=> ?_
 have HK:=z4 (a0.out.re T d);have a2:Hid ((re W9 T d).ownsRow 0 3 1 (.slice (some ⟨g0,0,none⟩) (zt cms a).length v0) (zt cms a).length ((zt cms a).map Zw)):=a4.out;have a3:g0<(re W9 T d).heap.size:=a6;clear a0 a4 a6;generalize re W9 T d=Wa at*;go_wp2;refine zn hP ?_;refine yR (t:=true) hP (by simp[Act.eval]) ?_;simp only[if_true];refine Vf hP ?_;simp only[Exit.then];refine zn hP ?_;refine ZK hP ?_;refine z7 hP a1.thenT.inBlock.thenL.thenT.inBlock fun T d=> ?_
 have a0:=z4 (HK.out.re T d);have a4:Hid ((re Wa T d).ownsRow 0 3 1 (.slice (some ⟨g0,0,none⟩) (zt cms a).length v0) (zt cms a).length ((zt cms a).map Zw)):=a2.out;have a6:g0<(re Wa T d).heap.size:=a3;clear HK a2 a3;generalize re Wa T d=Wb at*;have s0:=d5.out Wb a0.out;go_wp2;clear s0;refine zn hP ?_;refine zP hP 2 a1.thenT.inBlock.thenL.thenT.inBlock.thenT rfl rfl rfl MD (by decide) rfl fun T d=> ?_
 have HK:=z4 (a0.out.re T d);have a2:Hid ((re Wb T d).ownsRow 0 3 1 (.slice (some ⟨g0,0,none⟩) (zt cms a).length v0) (zt cms a).length ((zt cms a).map Zw)):=a4.out;have a3:g0<(re Wb T d).heap.size:=a6;clear a0 a4 a6;generalize re Wb T d=Wc at*;simp only[aX,ME,MF,MG];go_wp2;refine⟨_,_,by simp[Act.eval],b7.out Wc b HK.out d8 c7,?_⟩;rintro v Wd ⟨⟨g1,v1,rfl,b2,a9⟩,ho,hk⟩ T d;have a0:=z4 ((HK.out.trans hk).re T d);have a4:Hid ((re Wd T d).ownsRow 0 3 1 (.slice (some ⟨g0,0,none⟩) (zt cms a).length v0) (zt cms a).length ((zt cms a).map Zw)):=yT a2.out (hk.re T d);have c6:Hid ((re Wd T d).ownsRow 0 3 1 (.slice (some ⟨g1,0,none⟩) (zt cms b).length v1) (zt cms b).length ((zt cms b).map Zw)):=ho;have a6:g0<(re Wd T d).heap.size:=j0b a3 hk.size;have e1 :g1<(re Wd T d).heap.size:=a9;have b4:g0≠g1:=by omega
 clear HK ho hk b2 a9 a3 a2;generalize re Wd T d=We at*;go_wp2;have e7:=j0f (xL cms a) hK;have e6:=j0f (xL cms b) hK;refine zg hP a1.thenT.inBlock.thenL.thenT.inBlock fun T d=> ?_
 have HK:Hid (ze w (re (We.alloc (.cells #[.slice (some ⟨g1,0,none⟩) (zt cms b).length v1] 39)) T d)):=(a0.out.alloc _).re T d;have a8:=cf 234 (enters_of Tryz.func234 (by kernel_rfl) rfl) (fun m=> !decide (m∈zt cms b)) (B:=We.heap.size) (b:=g1) (tc:=v1) (l2:=zt cms b) (fun W hT m=>Fq hT (by omega) m) (w:=re (We.alloc (.cells #[.slice (some ⟨g1,0,none⟩) (zt cms b).length v1] 39)) T d) (base:=0) (v:= .slice (some ⟨g0,0,none⟩) (zt cms a).length v0) (l:=zt cms a) (a4.out.alloc _) (by simp) (GE (c6.out.alloc _) (cell?_alloc_first _ _ _)) (by show _<(We.alloc _).heap.size;simp) (by show _<(We.alloc _).heap.size;simp;omega) (fun e=>absurd (show g0=We.heap.size by injection e) (by omega)) (fun e=>b4 (by injection e)) (by omega);have a7:=z4 a8;have e3:g0<(re (We.alloc (.cells #[.slice (some ⟨g1,0,none⟩) (zt cms b).length v1] 39)) T d).heap.size:=by show g0<(We.alloc _).heap.size;simp;omega
 clear a0 a4 c6 a8;generalize re (We.alloc (.cells #[.slice (some ⟨g1,0,none⟩) (zt cms b).length v1] 39)) T d=Wf at*;go_wp2_with fail
 refine a7.out.mono ?_;rintro e Wg ⟨gb,v2,rfl,b1,ho,b5⟩;have e2:g0=gb:=by injection b1
 subst e2;have d3:ze w Wg:=HK.out.kept b5 (fun k hk=>by
  have c9 :some g0=some k:=hk;injection c9 with c9
  omega)
 have b6:Hid ((zt cms a).filter (fun m=> !!decide (m∈zt cms b))=Zx cms a b):=by
  show _=_;rw[←O_ hw a b c7];refine List.filter_congr fun m _=> ?_
  simp
 rw[b6.out]at ho⊢;have a0:=z4 d3;have a2:=z4 ho;have a3:g0<Wg.heap.size:=j0b e3 b5.size;clear b6 a7 d3 ho b5 b1 HK;go_wp2;refine zg hP a1.thenT.inBlock.thenL fun T d=> ?_
 have HK:=z4 (a0.out.re T d);have a4:Hid ((re Wg T d).ownsRow 0 3 1 (.slice (some ⟨g0,0,none⟩) (Zx cms a b).length v2) (Zx cms a b).length ((Zx cms a b).map Zw)):=a2.out;have a6:g0<(re Wg T d).heap.size:=a3;clear a0 a2 a3;generalize re Wg T d=Wh at*;go_wp2;refine Vk hP ?_;refine zg hP a1.thenT.inBlock.thenL fun T d=> ?_
 have a0:=z4 (HK.out.re T d);have a2:Hid ((re Wh T d).ownsRow 0 3 1 (.slice (some ⟨g0,0,none⟩) (Zx cms a b).length v2) (Zx cms a b).length ((Zx cms a b).map Zw)):=a4.out;have a3:g0<(re Wh T d).heap.size:=a6;clear HK a4 a6;generalize re Wh T d=Wi at*;go_wp2;refine z7 hP a1 fun T d=> ?_
 have HR:Hid (KD w (Zx cms a b) (.slice (some ⟨g0,0,none⟩) (Zx cms a b).length v2) (re Wi T d)):=⟨⟨g0,v2,rfl,d9,a3⟩,a2.out,a0.out.re T d⟩
 clear a0 a2 a3;generalize re Wi T d=Wj at*;go_wp2;refine Xj hP ?_;refine⟨rfl,.slice (some ⟨g0,0,none⟩) (Zx cms a b).length v2,fun W=> ?_,HR.out⟩;simp[results,Tryz.results202,go_sem]
end
def lenOf:eB→Nat
 | .slice _ n _=>n
 |_=>0
def at5 (a:Act):Nat:=lenOf (a.tmps.getD 5 lS)
def vp (w:eX)(l:List Nat)(v:eB)(w' :eX):Prop:=(∃va vc,v= .slice va l.length vc)∧w'.ownsRow w.heap.size 3 1 v l.length (l.map Zw)∧ze w w'
theorem vp.re {w:eX}{l:List Nat}{v:eB}{w' :eX}(h:vp w l v w')(T:Nat→iC→Nat)(d:Nat):vp w l v (mG w' T d):=⟨h.1,h.2.1,h.2.2.re T d⟩
def Cy (w:eX)(B cb:Nat)(cms:List R.Cm)(tot:List Nat)(a:Act)(W:eX):Prop:=
 ∃(left found:List Nat) (g lc:Nat) (fa:Option Addr) (fc:Nat) (u7 u8 u9 u10 u11 u12 u13 u14 u15 u16 u17 u18 u19 u20 u21 u22 u23 u24 u25 u26 u27:eB),
  a=⟨#[.pointer (some ⟨B,0,none⟩),.slice (some ⟨cb,0,none⟩) 2 2,lS,lS,.slice none 0 0,.slice (some ⟨g,0,none⟩) left.length lc,.slice fa found.length fc,u7,u8,u9,u10,u11,u12,u13,u14,u15,u16,u17,u18,u19,u20,u21,u22,u23,u24,u25,u26,u27,lS,lS,lS],[]⟩∧
  (∀x∈left,1≤x∧x≤cms.length)∧found++Gb cms left=tot∧left.length+found.length≤60∧ze w W∧W.ownsRow 0 3 1 (.slice (some ⟨g,0,none⟩) left.length lc) left.length (left.map Zw)∧w.heap.size≤g∧g<W.heap.size∧
  W.ownsRow w.heap.size 3 1 (.slice fa found.length fc) found.length (found.map Zw)∧(∀k,(Value.slice fa found.length fc).ownBlock=some k→k≠g)
theorem Cy.re {w:eX}{B cb:Nat}{cms:List R.Cm}{a2:List Nat}{a:Act}{W:eX}(h:Cy w B cb cms a2 a W)(T:Nat→iC→Nat)(d:Nat):Cy w B cb cms a2 a (mG W T d):=by
 obtain⟨a1,a0,g,lc,fa,fc,u7,u8,u9,a3,a4,a5,a6,a7,a8,a9,b1,b2,b3,b4,b5,b6,b7,b8,b9,c6,c7,h1,h2,h3,h4,h5,h6⟩:=h;exact⟨a1,a0,g,lc,fa,fc,u7,u8,u9,a3,a4,a5,a6,a7,a8,a9,b1,b2,b3,b4,b5,b6,b7,b8,b9,c6,c7,h1,h2,h3,h4,h5.re T d,h6⟩
section
theorem FN {w:eX}{B cb a b:Nat}{cms:List R.Cm}(hw:WfC cms)(HH:om w B cms)(j3:1≤a)(j4:a≤cms.length)(j5:1≤b)(g4:b≤cms.length)(hK:cms.length≤60)(d9:cb<w.heap.size)(c0:w.cell? ⟨cb,0,none⟩=some (.int .i64 (a:Int)))(c1:w.cell? ⟨cb,1,none⟩=some (.int .i64 (b:Int))):
  zF sU 153 #[.pointer (some ⟨B,0,none⟩),.slice (some ⟨cb,0,none⟩) 2 2] w (vp w (R.latC cms a b)):=by
 have hP:=xx;have i9:=z4 HH;have g8:∀W,ze w W→zF sU 202 #[.pointer (some ⟨B,0,none⟩),.slice (some ⟨cb,0,none⟩) 2 2] W (KD W (Zx cms a b)):=fun W hW=>FP hw (fun W2 n h2=>HH W2 n (hW.trans h2)) j3 j4 j5 g4 hK (j0b d9 hW.size) ((hW.cell (p:=⟨cb,0,none⟩) d9).trans c0) ((hW.cell (p:=⟨cb,1,none⟩) d9).trans c1)
 have e8:=z4 g8;have a4:Hid (∀x∈Zx cms a b,1≤x∧x≤cms.length):=fun x hx=>(Qa _ _).1 (List.mem_filter.1 hx).1
 have f5:Hid ((Zx cms a b).length≤60):=by
  show _≤_;have h1:(Zx cms a b).length≤(zt cms a).length:=by rw[←O_ hw a b g4];exact pY _ _
  have:=xL cms a;omega
 have d8:Hid ((Gb cms (Zx cms a b)).reverse=R.latC cms a b):=fY hw a b;clear HH c0 c1 g8;refine zL hP MH rfl ?_;have b5:ReC (zZ sU MI (vp w (R.latC cms a b))):=ReC.body fun v w' T d h=>h.re T d
 simp only[Tryz.ntmps153,tQ,nM,pC,tR,tS,tT,tU,tV,tX,nV,mJ];refine z7 hP b5 fun T d=> ?_
 have HK:=z4 ((ze.refl w).re T d);generalize re w T d=W at*;go_wp2;refine zn hP ?_;refine zP hP 2 b5.thenT rfl rfl rfl MC (by decide) rfl fun T d=> ?_
 have a2 :=z4 (HK.out.re T d);clear HK;generalize re W T d=W1 at*;simp only[aX,ME,MF,MG];go_wp2;refine⟨_,_,by simp[Act.eval],e8.out W1 a2.out,?_⟩;rintro v W2 ⟨⟨g0,v0,rfl,d4,a3⟩,ho,hk⟩ T d;have HK:=z4 ((a2.out.trans hk).re T d);have HO:=z4 (show(re W2 T d).ownsRow 0 3 1 (.slice (some ⟨g0,0,none⟩) (Zx cms a b).length v0) (Zx cms a b).length ((Zx cms a b).map Zw)from ho);have h0:w.heap.size≤g0:=j0f a2.out.size d4;have i6:g0<(re W2 T d).heap.size:=a3;clear a2 ho hk d4 a3 e8;generalize re W2 T d=W3 at*;go_wp2;refine z7 hP b5 fun T d=> ?_
 have a2 :=z4 (HK.out.re T d);have b1 :=z4 (show(re W3 T d).ownsRow 0 3 1 (.slice (some ⟨g0,0,none⟩) (Zx cms a b).length v0) (Zx cms a b).length ((Zx cms a b).map Zw)from HO.out);have i7:g0<(re W3 T d).heap.size:=i6;clear HK HO i6;generalize re W3 T d=W4 at*;go_wp2;refine zn hP ?_;refine ZK hP ?_;refine Vg hP (Cy w B cb cms (Gb cms (Zx cms a b))) (fun a _=>at5 a) ?_ ?_
 ·exact⟨Zx cms a b,[],g0,v0,none,0,_,_,_,_,_,_,_,_,_,_,_,_,_,_,_,_,_,_,_,_,_,rfl,a4.out,rfl,by have:=f5.out;simpa using this,a2.out,b1.out,h0,i7,World.ownsRow_nil _ _ _ _,fun k hk=>by simp[Value.ownBlock]at hk⟩
 clear a2 b1 i7 h0 a4 f5;rintro a0 W5 ⟨e7,a1,g,lc,fa,fc,u7,u8,u9,l4,l5,l6,l7,l8,l9,m0,m1,m2,m3,m4,m5,m6,m7,m8,m9,n3,n4,rfl,g6,c9,a5,hk,ho,d4,a3,hf,g9⟩;have b6:∀(n0:Nat) (c:Code),ReC (Exit.then (fun a' w' =>Cy w B cb cms (Gb cms (Zx cms a b)) a' w' ∧at5 a' <n0) (Exit.inBlock 0 (Exit.then (wpT sU 153 c (zZ sU MI (vp w (R.latC cms a b)))) (zZ sU MI (vp w (R.latC cms a b)))))):=fun n0 c=>b5.thenT.inBlock.thenM fun a w T d ⟨h1,h6⟩=>⟨h1.re T d,h6⟩
 have f9:=z4 c9;have a4:=z4 g6;have HF:=z4 hf;have d7:=z4 g9;have HO:=z4 ho;have HK:=z4 hk;clear c9 g6 hf g9 ho hk
 cases e7 with
 |nil=>
  refine zg hP (b6 _ _) fun T d=> ?_
  have a2 :=z4 (HK.out.re T d);have a7 :=z4 (show(re W5 T d).ownsRow w.heap.size 3 1 (.slice fa a1.length fc) a1.length (a1.map Zw)from HF.out);clear HK HF HO a3;generalize re W5 T d=W6 at*;go_wp2;have e9:Hid (a1.reverse=R.latC cms a b):=by
   show _=_;rw[←d8.out,←f9.out];show _=(a1++ []).reverse;rw[List.append_nil]
  refine zg hP b5 fun T d=> ?_
  have HK:=z4 (a2.out.re T d);have c8:=BB (w:=re W6 T d) (v:= .slice fa a1.length fc) (l:=a1) (by simp only[pC]at a5;omega) a7.out;have d3:Hid (∀k,(Value.slice fa a1.length fc).ownBlock=some k→w.heap.size≤k):=fun k hk=>(a7.out.lt k hk).1
  have b2:=z4 c8;clear a2 a7 c8;generalize re W6 T d=W7 at*;go_wp2_with fail
  refine b2.out.mono ?_;rintro e W8 ⟨rfl,a6,c6⟩;have HR:Hid (vp w (R.latC cms a b) (.slice fa a1.length fc) W8):=by
   rw[e9.out]at a6;have hl:a1.length=(R.latC cms a b).length:=by rw[←e9.out,List.length_reverse]
   exact⟨⟨fa,fc,by rw[hl]⟩,by rw[hl]at a6⊢;exact a6,HK.out.kept c6 (fun k hk=>d3.out k hk)⟩
  clear a6 c6 b2 HK;go_wp2;refine⟨rfl,.slice fa a1.length fc,fun W=> ?_,HR.out⟩;simp[results,Tryz.results153,go_sem]
 |cons x r=>
  have HX:Hid (∀W:eX,W.ownsRow 0 3 1 (.slice (some ⟨g,0,none⟩) (x::r).length lc) (x::r).length ((x::r).map Zw)→W.cell? ⟨g,0,none⟩=some (.int .i64 (x:Int))):=fun W ho=>by
   obtain⟨a',c',hv,_,_,_,hs⟩:=zh ho;injection hv with e1 e2 e3
   subst e1;obtain⟨g',e,_,_,_,j6⟩:=hs _ rfl;injection e with e
   subst e;exact j6 0 _ rfl
  have hx:=a4.out x (by simp);have l3:a1.length+1≤60:=by rw[nM]at a5;omega
  refine zn hP ?_;refine zg hP (b6 _ _).thenT fun T d=> ?_
  have a2 :=z4 (HK.out.re T d);have a7 :=z4 (show(re W5 T d).ownsRow w.heap.size 3 1 (.slice fa a1.length fc) a1.length (a1.map Zw)from HF.out);have b1 :=z4 (show(re W5 T d).ownsRow 0 3 1 (.slice (some ⟨g,0,none⟩) (x::r).length lc) (x::r).length ((x::r).map Zw)from HO.out);have i0:g<(re W5 T d).heap.size:=a3;clear HK HF HO a3;generalize re W5 T d=W6 at*;go_wp2;refine ZK hP ?_;refine z7 hP (b6 _ _).inBlock fun T d=> ?_
  have HK:=z4 (a2.out.re T d);have HF:=z4 (show(re W6 T d).ownsRow w.heap.size 3 1 (.slice fa a1.length fc) a1.length (a1.map Zw)from a7.out);have HO:=z4 (show(re W6 T d).ownsRow 0 3 1 (.slice (some ⟨g,0,none⟩) (x::r).length lc) (x::r).length ((x::r).map Zw)from b1.out);have a3:g<(re W6 T d).heap.size:=i0;clear a2 a7 b1 i0;generalize re W6 T d=W7 at*;have x0:=HX.out W7 HO.out;have k9:=HK.out.size;go_wp2_with (at_builtin;go_loud (refine jf _ (by rfl) _ _ 39 (by rfl) w.heap.size 3 (.int .i64 0) 1 8 Tryz.underlying39 qa (by rfl) (by decide) (HF.out.alloc _) _ 1 1 _ (by rfl) (y6 _ _ _) (by rfl) (by rfl) (by intro u hu;simp at hu;subst hu;rfl) (by unfold maxLen;omega) (by omega) (by simp;omega) ?_))
  intro v' W8 a6 g7;have d3:Hid (∀k,(Value.slice fa a1.length fc).ownBlock=some k→w.heap.size≤k):=fun k hk=>(HF.out.lt k hk).1
  have k4:ze w W8∧W8.heap[g]? =W7.heap[g]?∧W7.heap.size+1≤W8.heap.size∧∀k,v'.ownBlock=some k→k≠g:=by
   have g3:(W7.alloc (Obj.cells #[.int .i64 (x:Int)] 3)).heap[g]? =W7.heap[g]? :=heap_alloc_old W7 _ a3;have i2:=HK.out.alloc (Obj.cells #[.int .i64 (x:Int)] 3);rcases g7 with⟨h1,h2⟩|⟨h1,h2⟩
   ·refine⟨i2.kept (O:=fun b=>(Value.slice fa a1.length fc).ownBlock=some b) ⟨h2.os,h2.tape,h2.output,h2.size,fun k hk hn=>h2.block k hk (fun e=>hn e.symm)⟩ (fun k hk=>d3.out k hk),?_,by simpa using h2.size,fun k hk=>d7.out k (by rw[←h1];exact hk)⟩
    rw[h2.block g (by simp;omega) (fun e=>d7.out g e.symm rfl)];exact g3
   ·refine⟨i2.kept (O:=fun _=>False) ⟨h2.os,h2.tape,h2.output,h2.size,fun k hk _=>h2.block k hk (by simp)⟩ (fun k hk=>hk.elim),?_,by simpa using h2.size,fun k hk=> ?_⟩
    ·rw[h2.block g (by simp;omega) (by simp)];exact g3
    ·rw[h1]at hk;injection hk with hk;omega
  obtain⟨c6,g5,k6,i4⟩:=k4;have f7:Hid (W8.ownsRow 0 3 1 (.slice (some ⟨g,0,none⟩) (x::r).length lc) (x::r).length ((x::r).map Zw)):=ZQ HO.out (fun k hk=>by
   have a8 :some g=some k:=hk;injection a8 with a8
   rw[←a8];exact g5)
  have d6:Hid (W8.ownsRow w.heap.size 3 1 v' (a1++ [x]).length ((a1++ [x]).map Zw)):=by
   show World.ownsRow _ _ _ _ _ _ _;rw[nL,List.map_append];exact a6
  have f6:=z4 i4;have f3:=z4 c6;have i1:g<W8.heap.size:=by omega
  obtain⟨b3,b4,k8,_⟩:=zh d6.out;subst k8;clear a6 g7 c6 g5 i4 HK HF HO d3 d7 x0 k6 a3 k9;go_wp2;refine zn hP ?_;refine zP hP 4 (b6 _ _).inBlock.thenT rfl rfl rfl MD (by decide) rfl fun T d=> ?_
  have HK:=z4 (f3.out.re T d);have HF:=z4 (show(re W8 T d).ownsRow w.heap.size 3 1 (.slice b3 (a1++ [x]).length b4) (a1++ [x]).length ((a1++ [x]).map Zw)from d6.out);have HO:=z4 (show(re W8 T d).ownsRow 0 3 1 (.slice (some ⟨g,0,none⟩) (x::r).length lc) (x::r).length ((x::r).map Zw)from f7.out);have a3:g<(re W8 T d).heap.size:=i1;clear f3 d6 f7 i1;generalize re W8 T d=W9 at*;have x0:=HX.out W9 HO.out;simp only[aX,ME,MF,MG];go_wp2;refine⟨_,_,by simp[Act.eval],i9.out W9 x HK.out hx.1 hx.2,?_⟩;rintro v Wa ⟨⟨g1,v1,rfl,e6,b8⟩,i5,b9⟩ T d;have f4:=z4 ((HK.out.trans b9).re T d);have f0:=z4 (show(re Wa T d).ownsRow w.heap.size 3 1 (.slice b3 (a1++ [x]).length b4) (a1++ [x]).length ((a1++ [x]).map Zw)from yT HF.out (b9.re T d));have f8:=z4 (show(re Wa T d).ownsRow 0 3 1 (.slice (some ⟨g,0,none⟩) (x::r).length lc) (x::r).length ((x::r).map Zw)from yT HO.out (b9.re T d));have g2:=z4 (show(re Wa T d).ownsRow 0 3 1 (.slice (some ⟨g1,0,none⟩) (zt cms x).length v1) (zt cms x).length ((zt cms x).map Zw)from i5);have l0:g<(re Wa T d).heap.size:=j0b a3 b9.size;have j8:g1<(re Wa T d).heap.size:=b8;have k3:g≠g1:=by omega
  clear HK HF HO i5 b9 e6 b8 a3 x0;generalize re Wa T d=Wb at*;go_wp2;have k5 :=j0f (xL cms x) hK;refine zg hP (b6 _ _).inBlock fun T d=> ?_
  have HK:Hid (ze w (re (Wb.alloc (.cells #[.slice (some ⟨g1,0,none⟩) (zt cms x).length v1] 39)) T d)):=(f4.out.alloc _).re T d;have HF:=z4 (show(re (Wb.alloc (.cells #[.slice (some ⟨g1,0,none⟩) (zt cms x).length v1] 39)) T d).ownsRow w.heap.size 3 1 (.slice b3 (a1++ [x]).length b4) (a1++ [x]).length ((a1++ [x]).map Zw)from f0.out.alloc _);have b7:=cf 204 (enters_of Tryz.func204 (by kernel_rfl) rfl) (fun m=>decide (m∈zt cms x)) (B:=Wb.heap.size) (b:=g1) (tc:=v1) (l2:=zt cms x) (fun W hT m=>Fp hT (by omega) m) (w:=re (Wb.alloc (.cells #[.slice (some ⟨g1,0,none⟩) (zt cms x).length v1] 39)) T d) (base:=0) (v:= .slice (some ⟨g,0,none⟩) (x::r).length lc) (l:=x::r) (f8.out.alloc _) (by simp) (GE (g2.out.alloc _) (cell?_alloc_first _ _ _)) (by show _<(Wb.alloc _).heap.size;simp) (by show _<(Wb.alloc _).heap.size;simp;omega) (fun e=>absurd (show g=Wb.heap.size by injection e) (by omega)) (fun e=>k3 (by injection e)) (by omega);have a9:=z4 b7;have k7:g<(re (Wb.alloc (.cells #[.slice (some ⟨g1,0,none⟩) (zt cms x).length v1] 39)) T d).heap.size:=by show g<(Wb.alloc _).heap.size;simp;omega
  clear f4 f0 f8 g2 b7;generalize re (Wb.alloc (.cells #[.slice (some ⟨g1,0,none⟩) (zt cms x).length v1] 39)) T d=Wc at*;go_wp2_with fail
  refine a9.out.mono ?_;rintro e Wd ⟨gb,v2,rfl,c7,ho,d5⟩;have j9:g=gb:=by injection c7
  subst j9;have j0:=z4 (HK.out.kept d5 (fun k hk=>by
   have a8 :some g=some k:=hk;injection a8 with a8
   omega))
  have i8:Hid (Wd.ownsRow w.heap.size 3 1 (.slice b3 (a1++ [x]).length b4) (a1++ [x]).length ((a1++ [x]).map Zw)):=ZQ HF.out (fun k hk=>d5.block k (HF.out.lt k hk).2 (fun e=>by
   have e' :some g=some k:=e;injection e' with e'
   exact f6.out k hk e'.symm))
  have j2:Hid ((x::r).filter (fun m=> !decide (m∈zt cms x))=Vu cms (x::r)):=rfl;rw[j2.out]at ho⊢;have j1:=z4 ho;have k1:g<Wd.heap.size:=j0b k7 d5.size;have i3:=jz hw (l:=x::r) (by simp) a4.out;clear ho d5 c7 HK HF a9;go_wp2;have j7:(a1++ [x]).length=a1.length+1:=by simp
  rw[←j7];refine⟨⟨Vu cms (x::r),a1++ [x],g,v2,b3,b4,_,_,_,_,_,_,_,_,_,_,_,_,_,_,_,_,_,_,_,_,_,rfl,fun y hy=>a4.out y (kB _ _ y hy),?_,?_,j0.out,j1.out,d4,k1,i8.out,f6.out⟩,?_⟩
  ·rw[←f9.out,fZ hw x r a4.out];simp
  ·rw[nL];simp only[nM,pC]at a5 i3⊢;omega
  ·simpa[at5,lenOf]using i3
end
def dR (W:eX)(l:List Nat)(v:eB)(w' :eX):Prop:=w'.ownsRow 0 3 1 v l.length (l.map Zw)∧(∀g,v.ownBlock=some g→W.heap.size≤g)∧ze W w'
def gB (w:eX)(B:Nat)(cms:List R.Cm):Prop:=∀(W:eX) (n:Nat),ze w W→n≤cms.length→zF sU 70 #[.pointer (some ⟨B,0,none⟩),.int .i64 (n:Int)] W (dR W (zt cms n))
theorem gB.law {w:eX}{B:Nat}{cms:List R.Cm}(hw:WfC cms)(h:gB w B cms):om w B cms:=fun W n hW h1 h2=>(h W n hW h2).mono fun v w' ⟨ho,hg,hk⟩=>by
 have hm:n∈zt cms n:=(yK hw h2 n).2 (yj n h1);have a1:0<(zt cms n).length:=List.length_pos_of_mem hm;refine⟨?_,ho,hk⟩;obtain⟨a,c,rfl,_,_,hn,hs⟩:=zh ho
 cases a with
 |none=>have:=(hn rfl).1;omega
 |some ad=>
  obtain⟨g,rfl,_,a0,_⟩:=hs ad rfl;exact⟨g,c,rfl,hg g rfl,a0⟩
theorem PSx.keptM {w w' :eX}{M O:Nat→Prop}{B:Nat}{st:R.St}{bv cv:eB}{LB:List BrP}{LCm:List (R.Cm×eB×eB)}(h:PSx w M O B st bv cv LB LCm)(hk:ze w w'):PSx w' M O B st bv cv LB LCm:=by
 have:=(h.below hk.below).re w'.tape w'.drawn;exact this
theorem G1 (st:R.St):R.parents st=R.parsC st.cms:=rfl
theorem PSx.hist {w:eX}{M O:Nat→Prop}{B:Nat}{st:R.St}{bv cv:eB}{LB:List BrP}{LCm:List (R.Cm×eB×eB)}(h:PSx w M O B st bv cv LB LCm)(hi:Inv st):gB w B st.cms:=fun W n hW hn=>by
 have hx:=h.keptM hW;obtain⟨g,cap,a0⟩:=hx.tc;have:=JR xx (w:=W) a0 hn hi.few (fun m h1 h2 p hp=>hi.wf.par m p hp) (fun m h1 h2=>by
  unfold R.parents;rw[j0d (by omega)];exact hi.two _ (j0c (by omega)))
 rw[G1,ux hi.wf n]at this;exact this
theorem oQ {W:eX}{v:eB}{l:List Nat}(ho:W.ownsRow 0 3 1 v l.length (l.map Zw))(hl:l.length≤100)(m:Nat):
  Calls sU 84 #[v,.int .i64 (m:Int)] W fun e w' =>e= .returned (.bool (decide (m∈l)))∧w' =W:=by
 obtain⟨a,c,rfl,_,_,hn,hs⟩:=zh ho
 cases l with
 |nil=>exact(Tryz.slices_Contains_int_empty a c m W).mono fun e w' ⟨h1,h2⟩=>⟨by simpa using h1,h2⟩
 |cons x r=>
  cases a with
  |none=>have:=(hn rfl).1;simp at this
  |some ad=>
   obtain⟨g,rfl,_,_,_,a1⟩:=hs ad rfl;have:=Tryz.slices_Contains_int g 0 (x::r).length c ((x::r).map fun n:Nat=>(n:Int)) m W (by simp) (by omega) (fun j hj=>by
    have a0 :j<(x::r).length:=by simpa using hj
    rw[lQ];refine a1 j _ ?_;rw[sZ,j0d a0];rw[lB,sZ,j0d a0];rfl)
   rw[kj]at this;exact this
def CA (w:eX)(b:Bool)(v:eB)(w' :eX):Prop:=v= .bool b∧ze w w'
section
theorem CK {w:eX}{B h c:Nat}{cms:List R.Cm}(hw:WfC cms)(HH:gB w B cms)(hh:h≤cms.length)(hK:cms.length≤60):
  zF sU 47 #[.pointer (some ⟨B,0,none⟩),.int .i64 (h:Int),.int .i64 (c:Int)] w (CA w (decide (c=0∨R.mark cms h c=true))):=by
 have hP:=xx;have a2:=z4 HH;clear HH;refine zL hP Tryz.func47 rfl ?_;have a1:ReC (zZ sU Tryz.f47 (CA w (decide (c=0∨R.mark cms h c=true)))):=ReC.body fun v w' T d h=>⟨h.1,h.2.re T d⟩
 simp only[Tryz.ntmps47,tQ,nM,pC,tR,tS,tT,tU,tV,tX,nV,mJ];by_cases hc:c=0
 ·subst hc
  refine zg hP a1 fun T d=> ?_
  have HK:=z4 ((ze.refl w).re T d);generalize re w T d=W at*;go_wp2;refine⟨rfl,.bool true,fun W=> ?_,⟨by simp,HK.out⟩⟩;simp[results,MJ,go_sem]
 ·have HD:Hid (R.mark cms h c=decide (c∈zt cms h)):=by
   show _=_;rw[Bool.eq_iff_iff,decide_eq_true_eq,yK hw hh]
  have q1:((c:Int)==0)=false:=by simp;omega
  refine z7 hP a1 fun T d=> ?_
  have HK:=z4 ((ze.refl w).re T d);generalize re w T d=W at*;go_wp2;refine zn hP ?_;refine fq hP 5 a1.thenT rfl rfl MD (by decide) rfl fun T d=> ?_
  have a0 :=z4 (HK.out.re T d);clear HK;generalize re W T d=W1 at*;simp only[aX,ME,MF,MG];go_wp2;refine⟨by rfl,_,_,by simp[Act.eval],a2.out W1 h a0.out hh,?_⟩;rintro v W2 ⟨ho,hg,hk⟩ T d;have a3:=z4 ((a0.out.trans hk).re T d);have HC:=z4 (oQ (W:=re W2 T d) ho (by have:=xL cms h;omega) c);clear a0 ho hg hk;generalize re W2 T d=W3 at*;go_wp2_with fail
  refine HC.out.mono ?_;rintro e W4 ⟨rfl,rfl⟩;go_wp2;refine Xj hP ?_;refine⟨rfl,.bool (decide (c∈zt cms h)),fun W=> ?_,⟨by rw[←HD.out],a3.out⟩⟩;simp[results,MJ,go_sem]
end
structure Y1 (mb:Nat)(w w' :eX):Prop where
 os:w'.os=w.os
 output:w'.output=w.output
 size:w.heap.size≤w'.heap.size
 block:∀k,k<w.heap.size→k≠mb→w'.heap[k]? =w.heap[k]?
section
variable {mb:Nat}{w w1 w2:eX}
theorem Y1.re (h:Y1 mb w w1)(T:Nat→iC→Nat)(d:Nat):Y1 mb w (mG w1 T d):=⟨h.os,h.output,h.size,h.block⟩
theorem Y1.trans (h:Y1 mb w w1)(k:Y1 mb w1 w2):Y1 mb w w2:=⟨k.os.trans h.os,k.output.trans h.output,j0f h.size k.size,fun b hb hn=>(k.block b (j0b hb h.size) hn).trans (h.block b hb hn)⟩
theorem ze.x (h:ze w w1)(mb:Nat):Y1 mb w w1:=⟨h.os,h.output,h.size,fun b hb _=>h.block b hb⟩
theorem Y1.cell (h:Y1 mb w w1){p:Addr}(hp:p.block<w.heap.size)(hn:p.block≠mb):w1.cell? p=w.cell? p:=sD (w:=w) (h.block _ hp hn)
theorem Y1.kept (h:Y1 mb w w1):zf (fun b=>b=mb) w (mG w1 w.tape w1.drawn):=⟨h.os,rfl,h.output,h.size,fun k hk hn=>h.block k hk hn⟩
theorem Y1.of_kept (h:zf (fun b=>b=mb) w w1):Y1 mb w w1:=⟨h.os,h.output,h.size,fun k hk hn=>h.block k hk hn⟩
theorem PT.keptX {N:Nat→Prop}{v:eB}{t:List R.Leaf}(h:PT w N v t)(k:Y1 mb w w1)(hN:N mb):PT w1 N v t:=by
 have:PT (mG w1 w.tape w1.drawn) N v t:=PT.step h k.kept (fun b hb=>by rw[hb];exact hN) (fun b hb=> .inl hb);exact this
end
def gD (cms:List R.Cm)(W:eX)(N:Nat→Prop)(E:List ((Nat×Nat)×eB)):Prop:=∀p∈E,(R.baseC cms p.1.1 p.1.2).2=0∧∃ta tc,p.2= .slice ta (R.baseC cms p.1.1 p.1.2).1.length tc∧PT W N (.slice ta (R.baseC cms p.1.1 p.1.2).1.length tc) (R.baseC cms p.1.1 p.1.2).1
theorem gD.keptX {cms:List R.Cm}{W W' :eX}{N:Nat→Prop}{E:List ((Nat×Nat)×eB)}{mb:Nat}(h:gD cms W N E)(k:Y1 mb W W')(hN:N mb):gD cms W' N E:=fun p hp=>by
 obtain⟨h1,ta,tc,h2,h3⟩:=h p hp;exact⟨h1,ta,tc,h2,h3.keptX k hN⟩
structure RI (N O:Nat→Prop)(B mb:Nat)(st:R.St)(bv cv:eB)(LB:List BrP)(LCm:List (R.Cm×eB×eB))(W:eX):Prop where
 ps:PSx W N O B st bv cv LB LCm
 lt:∀b,N b→b<W.heap.size
 mem:N mb
 own:¬O mb
 map:∃E,KE W mb E∧gD st.cms W N E
section
variable {N O:Nat→Prop}{B mb:Nat}{st:R.St}{bv cv:eB}{LB:List BrP}{LCm:List (R.Cm×eB×eB)}{W W' :eX}
theorem RI.keptX (h:RI N O B mb st bv cv LB LCm W)(k:Y1 mb W W')(E:List ((Nat×Nat)×eB))(hm:KE W' mb E)(hE:gD st.cms W' N E):RI N O B mb st bv cv LB LCm W' :=by
 refine⟨?_,fun b hb=>j0b (h.lt b hb) k.size,h.mem,h.own,E,hm,hE⟩;have:=(h.ps.kept k.kept (fun b hb=>by rw[hb];exact⟨h.mem,h.own⟩) (M' :=N) (fun b hb=> .inl hb) h.ps.sub).re W'.tape W'.drawn;exact this
theorem KE.keptM {w w1:eX}{mb:Nat}{E:List ((Nat×Nat)×eB)}(h:KE w mb E)(k:ze w w1):KE w1 mb E:=by
 obtain⟨es,c,h1,h2⟩:=h;exact⟨es,c,by rw[k.block mb (Array.getElem?_eq_some_iff.1 h1).1];exact h1,h2⟩
theorem RI.keptM (h:RI N O B mb st bv cv LB LCm W)(k:ze W W'):RI N O B mb st bv cv LB LCm W' :=by
 obtain⟨E,h1,h2⟩:=h.map;exact h.keptX (k.x mb) E (h1.keptM k) (h2.keptX (k.x mb) h.mem)
theorem RI.re (h:RI N O B mb st bv cv LB LCm W)(T:Nat→iC→Nat)(d:Nat):RI N O B mb st bv cv LB LCm (mG W T d):=h.keptM ((ze.refl W).re T d)
end
def yN (N O:Nat→Prop)(B mb:Nat)(st:R.St)(bv cv:eB)(LB:List BrP)(LCm:List (R.Cm×eB×eB))(W:eX)(r:List R.Leaf×Int)(v:eB)(W' :eX):Prop:=
 ∃ta tc,v= .tuple #[.slice ta r.1.length tc,.int .i64 r.2]∧PT W' N (.slice ta r.1.length tc) r.1∧RI N O B mb st bv cv LB LCm W' ∧Y1 mb W W'
theorem yN.re {N O:Nat→Prop}{B mb:Nat}{st:R.St}{bv cv:eB}{LB:List BrP}{LCm:List (R.Cm×eB×eB)}{W W' :eX}{r:List R.Leaf×Int}{v:eB}(h:yN N O B mb st bv cv LB LCm W r v W')(T:Nat→iC→Nat)(d:Nat):yN N O B mb st bv cv LB LCm W r v (mG W' T d):=by
 obtain⟨ta,tc,h1,h2,h3,h4⟩:=h;exact⟨ta,tc,h1,h2,h3.re T d,h4.re T d⟩
section
theorem CL {N O:Nat→Prop}{B mb:Nat}{st:R.St}{bv cv:eB}{LB:List BrP}{LCm:List (R.Cm×eB×eB)}{w:eX}(hi:Inv st)(hR:RI N O B mb st bv cv LB LCm w){a b:Nat}(g5:1≤a)(f4:a≤st.cms.length)(g6:1≤b)(g7:b≤st.cms.length)
  (e9:∀(W:eX) (v:eB),RI N O B mb st bv cv LB LCm W→vp w (R.latC st.cms a b) v W→zF sU 152 #[.agg #[.pointer (some ⟨B,0,none⟩),.map (some mb)],v] W (yN N O B mb st bv cv LB LCm W (R.togL (R.baseC st.cms) st.cms (R.latC st.cms a b)))):
  zF sU 103 #[.agg #[.pointer (some ⟨B,0,none⟩),.map (some mb)],.int .i64 (a:Int),.int .i64 (b:Int)] w (yN N O B mb st bv cv LB LCm w (R.baseC st.cms a b)):=by
 have hP:=xx;have d7:=hi.few;refine zL hP MK rfl ?_;have a1:ReC (zZ sU Tryz.f103 (yN N O B mb st bv cv LB LCm w (R.baseC st.cms a b))):=ReC.body fun v w' T d h=>h.re T d
 simp only[Tryz.ntmps103,tQ,nM,pC,tR,tS,tT,tU,tV,tX,nV,mJ];have a8:=z4 e9;have c7:Hid (R.baseC st.cms a b=R.togL (R.baseC st.cms) st.cms (R.latC st.cms a b)):=Cp hi.wf a b f4;clear e9;refine z7 hP a1 fun T d=> ?_
 have HR:=z4 (hR.re T d);have HK:Hid (ze w (re w T d)):=(ze.refl w).re T d;generalize re w T d=W at*;go_wp2;have f3:RI N O B mb st bv cv LB LCm (W.alloc (.cells #[.pointer (some ⟨B,0,none⟩),.map (some mb)] 152)):=HR.out.keptM (ze.of_below ((j0g _ _).alloc (j0a _) _));have f0:ze w (W.alloc (.cells #[.pointer (some ⟨B,0,none⟩),.map (some mb)] 152)):=HK.out.alloc _;have f8:W.heap.size<(W.alloc (.cells #[.pointer (some ⟨B,0,none⟩),.map (some mb)] 152)).heap.size:=by simp
 have y0:(W.alloc (.cells #[.pointer (some ⟨B,0,none⟩),.map (some mb)] 152)).cell? ⟨W.heap.size,0,none⟩=some (.pointer (some ⟨B,0,none⟩)):=by simp
 have y1:(W.alloc (.cells #[.pointer (some ⟨B,0,none⟩),.map (some mb)] 152)).cell? ⟨W.heap.size,1,none⟩=some (.map (some mb)):=by simp
 have f6:W.heap.size≠mb:=fun e=>by have:=HR.out.lt mb HR.out.mem;omega
 clear HR HK;generalize W.alloc (.cells #[.pointer (some ⟨B,0,none⟩),.map (some mb)] 152)=Wa at*;generalize W.heap.size=bx at*;refine z7 hP a1 fun T d=> ?_
 have HR:=z4 (f3.re T d);have HK:=z4 (f0.re T d);have x0:(re Wa T d).cell? ⟨bx,0,none⟩=some (.pointer (some ⟨B,0,none⟩)):=y0;have x1:(re Wa T d).cell? ⟨bx,1,none⟩=some (.map (some mb)):=y1;have a9 :bx<(re Wa T d).heap.size:=f8;clear f3 f0 f8 y0 y1;generalize re Wa T d=W1 at*;obtain⟨E,b2,b3⟩:=HR.out.map;rcases oU b2 (a,b) (by omega) (by omega)with⟨b5,g8⟩|⟨v,b5,b7⟩
 rotate_left
 ·obtain⟨hz,ta,tc,hv,b4⟩:=b3 _ b7
  simp only at hz hv b4;subst hv;have b6 :(Instr.lookup 150 (.map (some mb)) (.agg #[.int .i64 (a:Int),.int .i64 (b:Int)]) true).run sU W1= .ok (.tuple #[.slice ta (R.baseC st.cms a b).1.length tc,.bool true]) W1:=b5;have a2:Hid (yN N O B mb st bv cv LB LCm w (R.baseC st.cms a b) (.tuple #[.slice ta (R.baseC st.cms a b).1.length tc,.int .i64 0]) W1):=⟨ta,tc,by rw[hz],b4,HR.out,HK.out.x mb⟩
  clear b5 b2 b3 b4 hz b7 HR HK a8 c7;go_wp2;refine⟨rfl,_,fun W=> ?_,a2.out⟩;simp[results,ML,go_sem]
 have b6 :(Instr.lookup 150 (.map (some mb)) (.agg #[.int .i64 (a:Int),.int .i64 (b:Int)]) true).run sU W1= .ok (.tuple #[.slice none 0 0,.bool false]) W1:=b5;clear b5 b2 b3 g8 E;go_wp2;clear b6;refine zn hP ?_;have a3:∀(w:eX) T d,(fun W' :eX=>W'.cell? ⟨bx,0,none⟩=some (.pointer (some ⟨B,0,none⟩))∧W'.cell? ⟨bx,1,none⟩=some (.map (some mb))) w→(fun W' :eX=>W'.cell? ⟨bx,0,none⟩=some (.pointer (some ⟨B,0,none⟩))∧W'.cell? ⟨bx,1,none⟩=some (.map (some mb))) (re w T d):=fun w T d h=>h
 have a0:Hid ((fun W' :eX=>W'.cell? ⟨bx,0,none⟩=some (.pointer (some ⟨B,0,none⟩))∧W'.cell? ⟨bx,1,none⟩=some (.map (some mb))) W1):=⟨x0,x1⟩
 clear x0 x1;refine Vh hP (by kernel_rfl) a1.thenT (fun W' :eX=>W'.cell? ⟨bx,0,none⟩=some (.pointer (some ⟨B,0,none⟩))∧W'.cell? ⟨bx,1,none⟩=some (.map (some mb))) a3 ?_;simp only[tQ,nM,pC,tR,lQ];co_applyP zi (i:=0) a1.thenT a3 rfl (by kernel_rfl) (by kernel_rfl) (by kernel_rfl) (by rfl)
 case hv=>
  intro W' hS K hK;obtain⟨s0,s1⟩:=hS;go_simp
  exact hK
 case hS=>exact a0.out
 try walk_nrm
 co_applyP zi (i:=1) a1.thenT a3 rfl (by kernel_rfl) (by kernel_rfl) (by kernel_rfl) (by rfl)
 case hv=>
  intro W' hS K hK;obtain⟨s0,s1⟩:=hS;go_simp
  exact hK
 case hS=>exact a0.out
 try walk_nrm
 co_applyP zi (i:=2) a1.thenT a3 rfl (by kernel_rfl) (by kernel_rfl) (by kernel_rfl) (by rfl)
 case hv=>
  intro W' hS K hK;obtain⟨s0,s1⟩:=hS;go_simp
  exact hK
 case hS=>exact a0.out
 try walk_nrm
 co_applyP zi (i:=3) a1.thenT a3 rfl (by kernel_rfl) (by kernel_rfl) (by kernel_rfl) (by rfl)
 case hv=>
  intro W' hS K hK;obtain⟨s0,s1⟩:=hS;go_simp
  exact hK
 case hS=>exact a0.out
 try walk_nrm
 co_applyP zi (i:=4) a1.thenT a3 rfl (by kernel_rfl) (by kernel_rfl) (by kernel_rfl) (by rfl)
 case hv=>
  intro W' hS K hK;obtain⟨s0,s1⟩:=hS;go_simp
  exact hK
 case hS=>exact a0.out
 try walk_nrm
 refine Cr (i:=5) (by kernel_rfl) rfl (by rfl) fun T d=>⟨.slice (some ⟨(re W1 T d).heap.size,0,none⟩) 2 2,(re W1 T d).alloc (.cells #[.int .i64 (a:Int),.int .i64 (b:Int)] 3),by unfold execOp;simp[go_sem,Act.eval],?_⟩
 have d5:=z4 ((HR.out.re T d).keptM (ze.of_below ((j0g _ _).alloc (j0a _) (.cells #[.int .i64 (a:Int),.int .i64 (b:Int)] 3))));have c8:=z4 ((HK.out.re T d).alloc (.cells #[.int .i64 (a:Int),.int .i64 (b:Int)] 3));have a5 :bx<((re W1 T d).alloc (.cells #[.int .i64 (a:Int),.int .i64 (b:Int)] 3)).heap.size:=by
  have:bx<(re W1 T d).heap.size:=a9;simp;omega
 have c9:Hid ((fun W' :eX=>W'.cell? ⟨bx,0,none⟩=some (.pointer (some ⟨B,0,none⟩))∧W'.cell? ⟨bx,1,none⟩=some (.map (some mb))) ((re W1 T d).alloc (.cells #[.int .i64 (a:Int),.int .i64 (b:Int)] 3))):=by
  have f5:bx<(re W1 T d).heap.size:=a9;have f7:=(j0g (re W1 T d).heap.size (re W1 T d)).alloc (j0a _) (.cells #[.int .i64 (a:Int),.int .i64 (b:Int)] 3);exact⟨(f7.cell (p:=⟨bx,0,none⟩) f5).trans a0.out.1,(f7.cell (p:=⟨bx,1,none⟩) f5).trans a0.out.2⟩
 have f9:(re W1 T d).heap.size<((re W1 T d).alloc (.cells #[.int .i64 (a:Int),.int .i64 (b:Int)] 3)).heap.size:=by simp
 have k0:((re W1 T d).alloc (.cells #[.int .i64 (a:Int),.int .i64 (b:Int)] 3)).cell? ⟨(re W1 T d).heap.size,0,none⟩=some (.int .i64 (a:Int)):=by simp
 have k1:((re W1 T d).alloc (.cells #[.int .i64 (a:Int),.int .i64 (b:Int)] 3)).cell? ⟨(re W1 T d).heap.size,1,none⟩=some (.int .i64 (b:Int)):=by simp
 clear HR HK a0 a9;generalize(re W1 T d).alloc (.cells #[.int .i64 (a:Int),.int .i64 (b:Int)] 3)=W2 at*;generalize(re W1 T d).heap.size=cb at*;refine⟨c9.out,?_⟩;try walk_nrm
 refine Yf (i:=6) (by kernel_rfl) rfl (by rfl) rfl (by simp[Act.eval]) MH (by decide) rfl (FN hi.wf (gB.law hi.wf (d5.out.ps.hist hi)) g5 f4 g6 g7 d7 f9 k0 k1) ?_;rintro v3 W3 b1;have e7:=z4 (d5.out.keptM b1.2.2);have d8:=z4 (c8.out.trans b1.2.2);have a6 :bx<W3.heap.size:=j0b a5 b1.2.2.size;have d3:Hid ((fun W' :eX=>W'.cell? ⟨bx,0,none⟩=some (.pointer (some ⟨B,0,none⟩))∧W'.cell? ⟨bx,1,none⟩=some (.map (some mb))) W3):=⟨(b1.2.2.cell (p:=⟨bx,0,none⟩) a5).trans c9.out.1,(b1.2.2.cell (p:=⟨bx,1,none⟩) a5).trans c9.out.2⟩
 have e6:Hid (vp w (R.latC st.cms a b) v3 W3):=by
  obtain⟨hf,ho,hk⟩:=b1;refine⟨hf,?_,c8.out.trans hk⟩;obtain⟨h1,h2⟩:=ho;refine⟨h1,?_⟩;rcases h2 with h2|⟨g,cap,g4,e1,e2,e3⟩
  ·exact .inl h2
  ·exact .inr ⟨g,cap,g4,e1,j0f c8.out.size e2,e3⟩
 clear d5 c8 c9 a5 b1 k0 k1 f9;refine⟨d3.out,?_⟩;try walk_nrm
 refine Yf (i:=7) (by kernel_rfl) rfl (by rfl) rfl (by simp[Act.eval]) MN (by decide) rfl (a8.out W3 v3 e7.out e6.out) ?_;rintro v4 W4 ⟨ta,tc,rfl,b4,g2,a4⟩;have e8:=z4 g2;have d4:=z4 b4;have d9:=z4 ((d8.out.x mb).trans a4);have a0:Hid ((fun W' :eX=>W'.cell? ⟨bx,0,none⟩=some (.pointer (some ⟨B,0,none⟩))∧W'.cell? ⟨bx,1,none⟩=some (.map (some mb))) W4):=⟨(a4.cell (p:=⟨bx,0,none⟩) a6 f6).trans d3.out.1,(a4.cell (p:=⟨bx,1,none⟩) a6 f6).trans d3.out.2⟩
 have d6 :bx<W4.heap.size:=j0b a6 a4.size;clear e7 d8 d3 e6 a6 b4 g2 a4 a8;rw[←c7.out]at d4⊢;refine⟨a0.out,?_⟩;try walk_nrm
 co_applyP zi (i:=8) a1.thenT a3 rfl (by kernel_rfl) (by kernel_rfl) (by kernel_rfl) (by rfl)
 case hv=>
  intro W' hS K hK;obtain⟨s0,s1⟩:=hS;go_simp
  exact hK
 case hS=>exact a0.out
 try walk_nrm
 co_applyP zi (i:=9) a1.thenT a3 rfl (by kernel_rfl) (by kernel_rfl) (by kernel_rfl) (by rfl)
 case hv=>
  intro W' hS K hK;obtain⟨s0,s1⟩:=hS;go_simp
  exact hK
 case hS=>exact a0.out
 try walk_nrm
 co_applyP zi (i:=10) a1.thenT a3 rfl (by kernel_rfl) (by kernel_rfl) (by kernel_rfl) (by rfl)
 case hv=>
  intro W' hS K hK;obtain⟨s0,s1⟩:=hS;go_simp
  exact hK
 case hS=>exact a0.out
 try walk_nrm
 co_applyP zi (i:=11) a1.thenT a3 rfl (by kernel_rfl) (by kernel_rfl) (by kernel_rfl) (by rfl)
 case hv=>
  intro W' hS K hK;obtain⟨s0,s1⟩:=hS;go_simp
  exact hK
 case hS=>exact a0.out
 try walk_nrm
 co_applyP zi (i:=12) a1.thenT a3 rfl (by kernel_rfl) (by kernel_rfl) (by kernel_rfl) (by rfl)
 case hv=>
  intro W' hS K hK;obtain⟨s0,s1⟩:=hS;go_simp
  exact hK
 case hS=>exact a0.out
 try walk_nrm
 refine YM (by kernel_rfl) ?_ _;simp only[Exit.then];refine zg hP a1 fun T d=> ?_
 have HR:=z4 (e8.out.re T d);have HK:=z4 (d9.out.re T d);have a7 :Hid (PT (re W4 T d) N (.slice ta (R.baseC st.cms a b).1.length tc) (R.baseC st.cms a b).1):=d4.out;have x0:(re W4 T d).cell? ⟨bx,0,none⟩=some (.pointer (some ⟨B,0,none⟩)):=a0.out.1;have x1:(re W4 T d).cell? ⟨bx,1,none⟩=some (.map (some mb)):=a0.out.2;clear e8 d9 d4 a0 d6;generalize re W4 T d=W5 at*;by_cases he:(R.baseC st.cms a b).2=0
 ·have q1:((R.baseC st.cms a b).2 !=0)=false:=by simp[he]
  obtain⟨E,b2,b3⟩:=HR.out.map;obtain⟨W6,E',g3,g1,c6,g0⟩:=oS b2 (a,b) (by omega) (by omega) (.slice ta (R.baseC st.cms a b).1.length tc);have g9 :(Instr.mapUpdate 150 (.map (some mb)) (.agg #[.int .i64 (a:Int),.int .i64 (b:Int)]) (.slice ta (R.baseC st.cms a b).1.length tc)).run sU W5= .ok () W6:=g3;have a2:Hid (yN N O B mb st bv cv LB LCm w (R.baseC st.cms a b) (.tuple #[.slice ta (R.baseC st.cms a b).1.length tc,.int .i64 0]) W6):=by
   have a4:=Y1.of_kept g0;have b9:=a7.out.keptX a4 HR.out.mem;refine⟨ta,tc,by rw[he],b9,HR.out.keptX a4 E' g1 fun p hp=> ?_,HK.out.trans a4⟩;rcases c6 p hp with rfl|hp
   ·exact⟨he,ta,tc,rfl,b9⟩
   ·exact b3.keptX a4 HR.out.mem p hp
  clear g3 b2 b3 g1 c6 g0 HR HK a7 c7 he;go_wp2;refine⟨rfl,_,fun W=> ?_,a2.out⟩;simp[results,ML,go_sem]
 ·have q1:((R.baseC st.cms a b).2 !=0)=true:=by simp[he]
  have a2:Hid (yN N O B mb st bv cv LB LCm w (R.baseC st.cms a b) (.tuple #[.slice none 0 0,.int .i64 (R.baseC st.cms a b).2]) W5):=by
   have b8:=Fs st.cms a b he;refine⟨none,0,by rw[b8];rfl,?_,HR.out,HK.out⟩;rw[b8];exact⟨[],rfl,⟨none,0,rfl,j0a _,by unfold maxLen;omega,fun h=>absurd h (LE _)⟩,fun q hq=>by cases hq⟩
  clear HR HK a7 c7 he;go_wp2;refine⟨rfl,_,fun W=> ?_,a2.out⟩;simp[results,ML,go_sem]
end
def dN (N:Nat→Prop)(W:eX)(t:List R.Leaf)(v:eB)(W' :eX):Prop:=(∃ta tc,v= .slice ta t.length tc∧PT W' N (.slice ta t.length tc) t)∧ze W W'
theorem kx (st:R.St)(n:Nat):R.treeOf st n=R.treeC st.cms n:=rfl
theorem FM {N O:Nat→Prop}{B mb:Nat}{st:R.St}{bv cv:eB}{LB:List BrP}{LCm:List (R.Cm×eB×eB)}{W:eX}(hi:Inv st)(hR:RI N O B mb st bv cv LB LCm W)(n:Nat)(hn:n≤st.cms.length):
  zF sU 52 #[.pointer (some ⟨B,0,none⟩),.int .i64 (n:Int)] W (dN N W (R.treeC st.cms n)):=
 callsT_lone xx (fun v w T d h=>⟨h.1,h.2.re T d⟩) fun T d=>(Yn (hR.re T d).ps n hn hi.few).mono fun e w' ⟨ta,tc,h1,h2,h3⟩=>⟨_,h1,⟨ta,tc,rfl,by rw[h3];exact h2⟩,by rw[h3];exact(ze.refl W).re T d⟩
def KW (bx B mb g:Nat)(l:List Nat)(W:eX):Prop:=W.cell? ⟨bx,0,none⟩=some (.pointer (some ⟨B,0,none⟩))∧W.cell? ⟨bx,1,none⟩=some (.map (some mb))∧∀j (h:j<l.length),W.cell? ⟨g,j,none⟩=some (.int .i64 (l[j]:Int))
theorem KW.re {bx B mb g:Nat}{l:List Nat}{W:eX}(h:KW bx B mb g l W)(T:Nat→iC→Nat)(d:Nat):KW bx B mb g l (mG W T d):=h
theorem KW.keptX {bx B mb g:Nat}{l:List Nat}{W W' :eX}(h:KW bx B mb g l W)(k:Y1 mb W W')(h1:bx<W.heap.size)(h2:bx≠mb)(h3:g<W.heap.size)(h4:g≠mb):KW bx B mb g l W' :=
 ⟨(k.cell (p:=⟨bx,0,none⟩) h1 h2).trans h.1,(k.cell (p:=⟨bx,1,none⟩) h1 h2).trans h.2.1,fun j hj=>(k.cell (p:=⟨g,j,none⟩) h3 h4).trans (h.2.2 j hj)⟩
def df (a:Act):Nat:=(intOf (a.tmps.getD 23 lS)).toNat
def Cv (N O:Nat→Prop)(B mb:Nat)(st:R.St)(bv cv:eB)(LB:List BrP)(LCm:List (R.Cm×eB×eB))(w:eX)(bx g:Nat)(l:List Nat)(a:Act)(W:eX):Prop:=
 ∃(k:Nat) (tk:List R.Leaf) (ta:Option Addr) (tc c1:Nat) (sa:Option Addr) (sc:Nat) (u7 u8 u9 u10 u11 u12 u13 u14 u15 u16 u17 u18 u19 u20 u24 u25 u26 u27 u28 u29 u30 u31 u32 u33 u34 u35 u36 u37 u38 u39 u40 u41 u42 u43 u44 u45 u46 u47 u48 u49 u50 u51 u52 u53 u54:eB),
  a=⟨#[.agg #[.pointer (some ⟨B,0,none⟩),.map (some mb)],.slice (some ⟨g,0,none⟩) l.length c1,.pointer (some ⟨bx,0,none⟩),lS,.slice none 0 0,.int .i64 0,.slice ta tk.length tc,u7,u8,u9,u10,u11,u12,u13,u14,u15,u16,u17,u18,u19,u20,.slice sa (l.length-1) sc,.int .i64 ((l.length-1:Nat):Int),.int .i64 (k:Int),u24,u25,u26,u27,u28,u29,u30,u31,u32,u33,u34,u35,u36,u37,u38,u39,u40,u41,u42,u43,u44,u45,u46,u47,u48,u49,u50,u51,u52,u53,u54,lS],[]⟩∧
  k+1≤l.length∧(2≤l.length→sa=some ⟨g,1,none⟩)∧R.togL (R.baseC st.cms) st.cms l=R.togF (R.baseC st.cms) st.cms (l.getD k 0) tk (l.drop (k+1))∧OkT tk∧PT W N (.slice ta tk.length tc) tk∧RI N O B mb st bv cv LB LCm W∧Y1 mb w W∧KW bx B mb g l W∧bx<W.heap.size∧g<W.heap.size
theorem Cv.re {N O:Nat→Prop}{B mb:Nat}{st:R.St}{bv cv:eB}{LB:List BrP}{LCm:List (R.Cm×eB×eB)}{w:eX}{bx g:Nat}{l:List Nat}{a:Act}{W:eX}(h:Cv N O B mb st bv cv LB LCm w bx g l a W)(T:Nat→iC→Nat)(d:Nat):Cv N O B mb st bv cv LB LCm w bx g l a (mG W T d):=by
 obtain⟨k,tk,ta,tc,c1,sa,sc,u7,u8,u9,a1,a2,a3,a4,a5,a6,a7,a8,a9,b1,b2,b3,b4,b5,b6,b7,b8,b9,c6,c7,c8,c9,d3,d4,d5,d6,d7,d8,d9,e1,e2,e3,e6,e7,e8,e9,f0,f3,f4,f5,f6,f7,h1,h2,h3,h4,h5,h6,h7,h8,h9,a0,h11⟩:=h;exact⟨k,tk,ta,tc,c1,sa,sc,u7,u8,u9,a1,a2,a3,a4,a5,a6,a7,a8,a9,b1,b2,b3,b4,b5,b6,b7,b8,b9,c6,c7,c8,c9,d3,d4,d5,d6,d7,d8,d9,e1,e2,e3,e6,e7,e8,e9,f0,f3,f4,f5,f6,f7,h1,h2,h3,h4,h5,h6,h7.re T d,h8.re T d,h9.re T d,a0,h11⟩
section
theorem gK {N O:Nat→Prop}{B mb:Nat}{st:R.St}{bv cv:eB}{LB:List BrP}{LCm:List (R.Cm×eB×eB)}{w:eX}(hi:Inv st)(hR:RI N O B mb st bv cv LB LCm w)(l:List Nat)(va:Option Addr)(vc:Nat)(hl:∀x∈l,1≤x∧x≤st.cms.length)(n4:l.length≤60)
  (ho:w.ownsRow 0 3 1 (.slice va l.length vc) l.length (l.map Zw))(m0:∀g,(Value.slice va l.length vc).ownBlock=some g→g≠mb)
  (e8:∀(W:eX) (x y:Nat),RI N O B mb st bv cv LB LCm W→x∈l→y∈l→2≤l.length→zF sU 103 #[.agg #[.pointer (some ⟨B,0,none⟩),.map (some mb)],.int .i64 (x:Int),.int .i64 (y:Int)] W (yN N O B mb st bv cv LB LCm W (R.baseC st.cms x y))):
  zF sU 152 #[.agg #[.pointer (some ⟨B,0,none⟩),.map (some mb)],.slice va l.length vc] w (yN N O B mb st bv cv LB LCm w (R.togL (R.baseC st.cms) st.cms l)):=by
 have hP:=xx;have i9:=hi.few;refine zL hP MN rfl ?_;have a8:ReC (zZ sU MO (yN N O B mb st bv cv LB LCm w (R.togL (R.baseC st.cms) st.cms l))):=ReC.body fun v w' T d h=>h.re T d
 simp only[Tryz.ntmps152,tQ,nM,pC,tR,tS,tT,tU,tV,tX,nV,mJ];have b8:=z4 e8;clear e8
 cases f7:l with
 |nil=>
  subst f7;refine zg hP a8 fun T d=> ?_
  have a5:Hid (∀o:Obj,yN N O B mb st bv cv LB LCm w (R.togL (R.baseC st.cms) st.cms []) (.tuple #[.slice none 0 0,.int .i64 0]) ((re w T d).alloc o)):=fun o=>⟨none,0,rfl,⟨[],rfl,⟨none,0,rfl,j0a _,by unfold maxLen;omega,fun h=>absurd h (LE _)⟩,fun q hq=>by cases hq⟩,(hR.re T d).keptM (ze.of_below ((j0g _ _).alloc (j0a _) o)),(((ze.refl w).re T d).alloc o).x mb⟩
  generalize re w T d=W at*;clear hR b8;go_wp2;refine⟨rfl,_,fun W=> ?_,a5.out _⟩;simp[results,MP,go_sem]
 |cons x0 r0=>
 rw[←f7];have a1:0<l.length:=by rw[f7];simp
 obtain⟨g,rfl,l6,l5⟩:∃g,va=some ⟨g,0,none⟩∧g<w.heap.size∧∀j (h:j<l.length),w.cell? ⟨g,j,none⟩=some (.int .i64 (l[j]:Int)):=by
  obtain⟨a',c',hv,_,_,hn,hs⟩:=zh ho;injection hv with e1 e2 e3
  subst e1
  cases va with
  |none=>have:=(hn rfl).1;omega
  |some ad=>
   obtain⟨g',rfl,_,h1,_,m8⟩:=hs _ rfl;exact⟨g',rfl,h1,fun j hj=>m8 j _ (by rw[sZ,j0d hj];rfl)⟩
 have j1:g≠mb:=m0 g rfl;have i8:l.length≤vc∧vc≤maxLen:=by
  obtain⟨a',c',hv,h1,h2,_⟩:=zh ho;injection hv with e1 e2 e3
  subst e3;exact⟨h1,h2⟩
 obtain⟨l3,f4⟩:=i8;unfold maxLen at f4;have m7:Hid (R.togL (R.baseC st.cms) st.cms l=R.togF (R.baseC st.cms) st.cms (l[0]'a1) (R.treeC st.cms (l[0]'a1)) (l.drop 1)):=by
  show _=_;subst f7;rfl
 clear m0 ho f7 x0 r0;refine z7 hP a8 fun T d=> ?_
 have k8:RI N O B mb st bv cv LB LCm ((re w T d).alloc (.cells #[.pointer (some ⟨B,0,none⟩),.map (some mb)] 152)):=(hR.re T d).keptM (ze.of_below ((j0g _ _).alloc (j0a _) _));have i0:ze w ((re w T d).alloc (.cells #[.pointer (some ⟨B,0,none⟩),.map (some mb)] 152)):=((ze.refl w).re T d).alloc _;have l0:(re w T d).heap.size<((re w T d).alloc (.cells #[.pointer (some ⟨B,0,none⟩),.map (some mb)] 152)).heap.size:=by simp
 have i6:(re w T d).heap.size≠mb:=fun e=>by have:mb<w.heap.size:=hR.lt mb hR.mem;have e' :w.heap.size=mb:=e;omega
 have l4:g<((re w T d).alloc (.cells #[.pointer (some ⟨B,0,none⟩),.map (some mb)] 152)).heap.size:=j0b l6 i0.size;have b6:Hid (KW (re w T d).heap.size B mb g l ((re w T d).alloc (.cells #[.pointer (some ⟨B,0,none⟩),.map (some mb)] 152))):=⟨by simp,by simp,fun j hj=>(i0.cell (p:=⟨g,j,none⟩) l6).trans (l5 j hj)⟩
 have a7:=z4 k8;have a6:=z4 i0;clear k8 i0 hR l5;generalize re w T d=W at*;go_wp2;generalize W.alloc (.cells #[.pointer (some ⟨B,0,none⟩),.map (some mb)] 152)=Wa at*;generalize W.heap.size=bx at*;refine z7 hP a8 fun T d=> ?_
 have HR:=z4 (a7.out.re T d);have HK:=z4 (a6.out.re T d);have HS:=z4 (b6.out.re T d);have c7 :bx<(re Wa T d).heap.size:=l0;have d5 :g<(re Wa T d).heap.size:=l4;clear a7 a6 b6 l0 l4;generalize re Wa T d=W1 at*;have q0:((l.length:Int)==0)=false:=beq_eq_false_iff_ne.2 (by omega);go_wp2;have a3:∀(w:eX) T d,KW bx B mb g l w→KW bx B mb g l (re w T d):=fun w T d h=>h.re T d
 refine zn hP ?_;refine Vh hP (by kernel_rfl) a8.thenT (KW bx B mb g l) a3 ?_;simp only[tQ,nM,pC,tR,lQ];co_applyP zi (i:=0) a8.thenT a3 rfl (by kernel_rfl) (by kernel_rfl) (by kernel_rfl) (by rfl)
 case hv=>
  intro W' hS K hK;obtain⟨s0,s1,s2⟩:=hS;clear s2;go_simp
  exact hK
 case hS=>exact HS.out
 try walk_nrm
 co_applyP zi (i:=1) a8.thenT a3 rfl (by kernel_rfl) (by kernel_rfl) (by kernel_rfl) (by rfl)
 case hv=>
  intro W' hS K hK;obtain⟨s0,s1,s2⟩:=hS;clear s2;go_simp
  exact hK
 case hS=>exact HS.out
 try walk_nrm
 co_applyP zi (i:=2) a8.thenT a3 rfl (by kernel_rfl) (by kernel_rfl) (by kernel_rfl) (by rfl)
 case hv=>
  intro W' hS K hK;obtain⟨s0,s1,s2⟩:=hS;clear s2;go_simp
  exact hK
 case hS=>exact HS.out
 try walk_nrm
 co_applyP zi (i:=3) a8.thenT a3 rfl (by kernel_rfl) (by kernel_rfl) (by kernel_rfl) (by rfl)
 case hv=>
  intro W' hS K hK;obtain⟨s0,s1,s2⟩:=hS;clear s2;go_simp
  exact hK
 case hS=>exact HS.out
 try walk_nrm
 co_applyP zi (i:=4) a8.thenT a3 rfl (by kernel_rfl) (by kernel_rfl) (by kernel_rfl) (by rfl)
 case hv=>
  intro W' hS K hK;obtain⟨s0,s1,s2⟩:=hS;have s3:=s2 0 a1;go_simp
  exact hK
 case hS=>exact HS.out
 try walk_nrm
 have n3:=hl _ (j0c a1);refine Yf (i:=5) (by kernel_rfl) rfl (by rfl) rfl (by simp[Act.eval]) Tryz.func52 (by decide) rfl (FM hi HR.out (l[0]'a1) n3.2) ?_;rintro v2 W2 ⟨⟨m1,m2,rfl,f8⟩,hk⟩;have k4:=z4 (HR.out.keptM hk);have j5:=z4 (HK.out.trans hk);have g9:=z4 (HS.out.keptX (hk.x mb) c7 i6 d5 j1);have c6:=z4 f8;have f0:bx<W2.heap.size:=j0b c7 hk.size;have f5:g<W2.heap.size:=j0b d5 hk.size;clear HR HK HS f8 hk c7 d5;refine⟨g9.out,?_⟩;try walk_nrm
 co_applyP zi (i:=6) a8.thenT a3 rfl (by kernel_rfl) (by kernel_rfl) (by kernel_rfl) (by rfl)
 case hv=>
  intro W' hS K hK;obtain⟨s0,s1,s2⟩:=hS;clear s2;go_simp
  exact hK
 case hS=>exact g9.out
 try walk_nrm
 refine YM (by kernel_rfl) ?_ _;simp only[Exit.then];refine zn hP ?_;refine z7 hP a8.thenT fun T d=> ?_
 have HR:=z4 (k4.out.re T d);have HK:=z4 (j5.out.re T d);have HS:=z4 (g9.out.re T d);have j9:Hid (PT (re W2 T d) N (.slice m1 (R.treeC st.cms (l[0]'a1)).length m2) (R.treeC st.cms (l[0]'a1))):=c6.out;have f3:bx<(re W2 T d).heap.size:=f0;have f6:g<(re W2 T d).heap.size:=f5;clear k4 j5 g9 c6 f0 f5;generalize re W2 T d=W3 at*;have q1:(1:Int)≤(l.length:Int):=by omega
 go_wp2
 all_goals
  have n8:2≤l.length→(if vc=1 then some (⟨g,0,none⟩:Addr)else some ⟨g,1,none⟩)=some ⟨g,1,none⟩:=fun h2=>if_neg (by omega)
  refine ZK hP ?_;refine Vg hP (Cv N O B mb st bv cv LB LCm w bx g l) (fun a _=>l.length-df a) ?_ ?_
  ·refine⟨0,R.treeC st.cms (l[0]'a1),m1,m2,_,_,_,_,_,_,_,_,_,_,_,_,_,_,_,_,_,_,_,_,_,_,_,_,_,_,_,_,_,_,_,_,_,_,_,_,_,_,_,_,_,_,_,_,_,_,_,_,rfl,a1,fun h2=> ?_,?_,ye hi.trees _,j9.out,HR.out,HK.out.x mb,HS.out,f3,f6⟩
   ·first
     |rfl
     |(exfalso;omega)
   ·rw[m7.out,lB,j0d a1];rfl
  clear j9 HR HK HS f3 f6;rintro a0 W4 ⟨k,tk,ta,tc,c1,sa,sc,u7,u8,u9,n9,o3,o4,o5,o6,o7,o8,o9,p0,p3,p4,p5,p6,p7,p8,p9,q4,q5,q6,q7,q8,q9,r1,r2,r3,r4,r5,r6,r7,r8,r9,s4,s5,s6,s7,s8,s9,t1,t2,t3,t4,t5,rfl,n7,j2,g3,l8,f8,l9,l7,g2,c8,d6⟩;have a4:∀(n0:Nat) (c:Code),ReC (Exit.then (fun a' w' =>Cv N O B mb st bv cv LB LCm w bx g l a' w' ∧l.length-df a' <n0) (Exit.inBlock 0 (Exit.then (wpT sU 152 c (zZ sU MO (yN N O B mb st bv cv LB LCm w (R.togL (R.baseC st.cms) st.cms l)))) (zZ sU MO (yN N O B mb st bv cv LB LCm w (R.togL (R.baseC st.cms) st.cms l)))))):=fun n0 c=>a8.thenT.inBlock.thenM fun a w T d ⟨h1,h6⟩=>⟨h1.re T d,h6⟩
  have h0:=z4 g3;have j8:=z4 l8;have c6:=z4 f8;have g8:=z4 l9;have g5:=z4 l7;have i5:=z4 g2;clear g3 l8 f8 l9 l7 g2;by_cases a2:k+1<l.length
  ·first
    |(exfalso;omega)
    |skip
   all_goals
    obtain rfl:=j2 (by omega);have m9:(k:Int)<((l.length-1:Nat):Int):=by omega
    refine z7 hP (a4 _ _) fun T d=> ?_
    have a7:=z4 (g8.out.re T d);have a6:=z4 (g5.out.re T d);have b6:=z4 (i5.out.re T d);have b5:Hid (PT (re W4 T d) N (.slice ta tk.length tc) tk):=c6.out;have b2:bx<(re W4 T d).heap.size:=c8;have b3:g<(re W4 T d).heap.size:=d6;clear g8 g5 i5 c6 c8 d6;generalize re W4 T d=W5 at*;go_wp2;refine zn hP ?_;refine yR (t:=true) hP (by simp[Act.eval]) ?_;simp only[if_true];refine Vf hP ?_;simp only[Exit.then];refine zn hP ?_;refine ZK hP ?_;refine z7 hP (a4 _ _).thenT.inBlock fun T d=> ?_
    have i4:=z4 (a7.out.re T d);have j7:=z4 (a6.out.re T d);have b7:=z4 (b6.out.re T d);have k3:Hid (PT (re W5 T d) N (.slice ta tk.length tc) tk):=b5.out;have d4:bx<(re W5 T d).heap.size:=b2;have d9:g<(re W5 T d).heap.size:=b3;clear a7 a6 b6 b5 b2 b3;generalize re W5 T d=W6 at*;have s3:W6.cell? ⟨g,1+k,none⟩=some (.int .i64 (l[k+1]:Int)):=by
     rw[Nat.add_comm 1 k];exact b7.out.2.2 (k+1) a2
    go_wp2;clear s3;have b4:k<l.length:=by omega
    refine zn hP ?_;refine Vh hP (by kernel_rfl) (a4 _ _).thenT.inBlock.thenT (KW bx B mb g l) a3 ?_;simp only[tQ,nM,pC,tR,lQ];co_applyP zi (i:=0) (a4 _ _).thenT.inBlock.thenT a3 rfl (by kernel_rfl) (by kernel_rfl) (by kernel_rfl) (by rfl)
    case hv=>
     intro W' hS K hK;obtain⟨s0,s1,s2⟩:=hS;clear s2;go_simp
     exact hK
    case hS=>exact b7.out
    try walk_nrm
    co_applyP zi (i:=1) (a4 _ _).thenT.inBlock.thenT a3 rfl (by kernel_rfl) (by kernel_rfl) (by kernel_rfl) (by rfl)
    case hv=>
     intro W' hS K hK;obtain⟨s0,s1,s2⟩:=hS;clear s2;go_simp
     exact hK
    case hS=>exact b7.out
    try walk_nrm
    co_applyP zi (i:=2) (a4 _ _).thenT.inBlock.thenT a3 rfl (by kernel_rfl) (by kernel_rfl) (by kernel_rfl) (by rfl)
    case hv=>
     intro W' hS K hK;obtain⟨s0,s1,s2⟩:=hS;clear s2;go_simp
     exact hK
    case hS=>exact b7.out
    try walk_nrm
    co_applyP zi (i:=3) (a4 _ _).thenT.inBlock.thenT a3 rfl (by kernel_rfl) (by kernel_rfl) (by kernel_rfl) (by rfl)
    case hv=>
     intro W' hS K hK;obtain⟨s0,s1,s2⟩:=hS;clear s2;go_simp
     exact hK
    case hS=>exact b7.out
    try walk_nrm
    co_applyP zi (i:=4) (a4 _ _).thenT.inBlock.thenT a3 rfl (by kernel_rfl) (by kernel_rfl) (by kernel_rfl) (by rfl)
    case hv=>
     intro W' hS K hK;obtain⟨s0,s1,s2⟩:=hS;have s3:=s2 k b4;go_simp
     exact hK
    case hS=>exact b7.out
    try walk_nrm
    co_applyP zi (i:=5) (a4 _ _).thenT.inBlock.thenT a3 rfl (by kernel_rfl) (by kernel_rfl) (by kernel_rfl) (by rfl)
    case hv=>
     intro W' hS K hK;obtain⟨s0,s1,s2⟩:=hS;clear s2;go_simp
     exact hK
    case hS=>exact b7.out
    try walk_nrm
    refine Yf (i:=6) (by kernel_rfl) rfl (by rfl) rfl (by simp[Act.eval]) MK (by decide) rfl (b8.out W6 (l[k]'b4) (l[k+1]'a2) i4.out (j0c b4) (j0c a2) (by omega)) ?_;rintro v7 W7 ⟨tb,m3,rfl,f9,g1,a9⟩;have g6:=z4 g1;have g4:=z4 (j7.out.trans a9);have b1:=z4 (b7.out.keptX a9 d4 i6 d9 j1);have i3:=z4 (k3.out.keptX a9 i4.out.mem);have i1:=z4 f9;have c9:bx<W7.heap.size:=j0b d4 a9.size;have d7:g<W7.heap.size:=j0b d9 a9.size;clear i4 j7 b7 k3 f9 g1 a9 d4 d9;refine⟨b1.out,?_⟩;try walk_nrm
    co_applyP zi (i:=7) (a4 _ _).thenT.inBlock.thenT a3 rfl (by kernel_rfl) (by kernel_rfl) (by kernel_rfl) (by rfl)
    case hv=>
     intro W' hS K hK;obtain⟨s0,s1,s2⟩:=hS;clear s2;go_simp
     exact hK
    case hS=>exact b1.out
    try walk_nrm
    co_applyP zi (i:=8) (a4 _ _).thenT.inBlock.thenT a3 rfl (by kernel_rfl) (by kernel_rfl) (by kernel_rfl) (by rfl)
    case hv=>
     intro W' hS K hK;obtain⟨s0,s1,s2⟩:=hS;clear s2;go_simp
     exact hK
    case hS=>exact b1.out
    try walk_nrm
    co_applyP zi (i:=9) (a4 _ _).thenT.inBlock.thenT a3 rfl (by kernel_rfl) (by kernel_rfl) (by kernel_rfl) (by rfl)
    case hv=>
     intro W' hS K hK;obtain⟨s0,s1,s2⟩:=hS;clear s2;go_simp
     exact hK
    case hS=>exact b1.out
    try walk_nrm
    co_applyP zi (i:=10) (a4 _ _).thenT.inBlock.thenT a3 rfl (by kernel_rfl) (by kernel_rfl) (by kernel_rfl) (by rfl)
    case hv=>
     intro W' hS K hK;obtain⟨s0,s1,s2⟩:=hS;clear s2;go_simp
     exact hK
    case hS=>exact b1.out
    try walk_nrm
    co_applyP zi (i:=11) (a4 _ _).thenT.inBlock.thenT a3 rfl (by kernel_rfl) (by kernel_rfl) (by kernel_rfl) (by rfl)
    case hv=>
     intro W' hS K hK;obtain⟨s0,s1,s2⟩:=hS;clear s2;go_simp
     exact hK
    case hS=>exact b1.out
    try walk_nrm
    refine YM (by kernel_rfl) ?_ _;simp only[Exit.then];have n5:=hl _ (j0c a2);have b9:Hid (R.togL (R.baseC st.cms) st.cms l=if(R.baseC st.cms (l[k]'b4) (l[k+1]'a2)).2≠0 then([],(R.baseC st.cms (l[k]'b4) (l[k+1]'a2)).2)else if(R.joinT (R.baseC st.cms (l[k]'b4) (l[k+1]'a2)).1 tk (R.treeC st.cms (l[k+1]'a2))).2≠0 then([],(R.joinT (R.baseC st.cms (l[k]'b4) (l[k+1]'a2)).1 tk (R.treeC st.cms (l[k+1]'a2))).2)else R.togF (R.baseC st.cms) st.cms (l[k+1]'a2) (R.joinT (R.baseC st.cms (l[k]'b4) (l[k+1]'a2)).1 tk (R.treeC st.cms (l[k+1]'a2))).1 (l.drop (k+1+1))):=by
     show _=_;rw[h0.out,lB,j0d b4,List.drop_eq_getElem_cons a2,R.togF];rfl
    have e9:=z4 (ko hi.trees (l[k]'b4) (l[k+1]'a2));have m5:Hid (l.getD (k+1) 0=l[k+1]'a2):=by show _=_;rw[lB,j0d a2];rfl
    clear h0;generalize R.baseC st.cms (l[k]'b4) (l[k+1]'a2)=rb at*;generalize l[k+1]'a2=n2 at*;by_cases he:rb.2=0
    ·have q2:(rb.2 !=0)=false:=by simp[he]
     refine zg hP (a4 _ _).thenT.inBlock fun T d=> ?_
     have g7:=z4 (g6.out.re T d);have j6:=z4 (g4.out.re T d);have k6:=z4 (b1.out.re T d);have k1:Hid (PT (re W7 T d) N (.slice ta tk.length tc) tk):=i3.out;have j3:Hid (PT (re W7 T d) N (.slice tb rb.1.length m3) rb.1):=i1.out;have x0:(re W7 T d).cell? ⟨bx,0,none⟩=some (.pointer (some ⟨B,0,none⟩)):=b1.out.1;have x1:(re W7 T d).cell? ⟨bx,1,none⟩=some (.map (some mb)):=b1.out.2.1;have d3:bx<(re W7 T d).heap.size:=c9;have d8:g<(re W7 T d).heap.size:=d7;clear g6 g4 b1 i3 i1 c9 d7;generalize re W7 T d=W8 at*;have k7:=z4 (Yn g7.out.ps n2 n5.2 i9);go_wp2_with fail
     refine k7.out.mono ?_;rintro e W9 ⟨tt,n6,rfl,e6,rfl⟩;rw[kx]at e6⊢;have j4:=z4 (Oy tb ta tt m3 tc n6 rb.1 tk (R.treeC st.cms n2) W9 N g7.out.lt j3.out k1.out e6 e9.out j8.out (ye hi.trees n2));clear k7 e6;go_wp2_with fail
     refine j4.out.mono ?_;rintro e Wa ⟨tj,m4,rfl,g0,k9⟩;have e7:=ze.of_below k9;have a7:=z4 (g7.out.keptM e7);have a6:=z4 (j6.out.trans (e7.x mb));have b6:=z4 (k6.out.keptX (e7.x mb) d3 i6 d8 j1);have b5:=z4 g0;have i2:=z4 (kb e9.out j8.out (ye hi.trees n2));have b2:bx<Wa.heap.size:=j0b d3 e7.size;have b3:g<Wa.heap.size:=j0b d8 e7.size;clear g7 j6 k6 k1 j3 j4 g0 k9 e7 d3 d8 x0 x1;generalize R.joinT rb.1 tk (R.treeC st.cms n2)=rj at*;by_cases hj:rj.2=0
     ·have q3:(rj.2 !=0)=false:=by simp[hj]
      rw[if_neg (by simp[he]),if_neg (by simp[hj])]at b9;clear he hj;go_wp2;refine zg hP (a4 _ _) fun T d=> ?_
      have HR:=z4 (a7.out.re T d);have HK:=z4 (a6.out.re T d);have HS:=z4 (b6.out.re T d);have m6:Hid (PT (re Wa T d) N (.slice tj rj.1.length m4) rj.1):=b5.out;have i7:bx<(re Wa T d).heap.size:=b2;have j0:g<(re Wa T d).heap.size:=b3;clear a7 a6 b6 b5 b2 b3;generalize re Wa T d=Wb at*;go_wp2;refine⟨⟨k+1,rj.1,tj,m4,c1,_,sc,_,_,_,_,_,_,_,_,_,_,_,_,_,_,_,_,_,_,_,_,_,_,_,_,_,_,_,_,_,_,_,_,_,_,_,_,_,_,_,_,_,_,_,_,_,rfl,a2,fun _=>rfl,?_,i2.out,m6.out,HR.out,HK.out,HS.out,i7,j0⟩,?_⟩
      ·rw[b9.out,m5.out]
      ·simp[df,intOf];omega
     ·have q3:(rj.2 !=0)=true:=by simp[hj]
      rw[if_neg (by simp[he]),if_pos (by simp[hj])]at b9;have a5:Hid (yN N O B mb st bv cv LB LCm w (R.togL (R.baseC st.cms) st.cms l) (.tuple #[.slice none 0 0,.int .i64 rj.2]) Wa):=by
       show yN _ _ _ _ _ _ _ _ _ _ _ _ _;rw[b9.out];exact⟨none,0,rfl,⟨[],rfl,⟨none,0,rfl,j0a _,by unfold maxLen;omega,fun h=>absurd h (LE _)⟩,fun q hq=>by cases hq⟩,a7.out,a6.out⟩
      clear he hj b9 a7 a6 b6 b5;go_wp2;refine⟨rfl,_,fun W=> ?_,a5.out⟩;simp[results,MP,go_sem]
    ·have q2:(rb.2 !=0)=true:=by simp[he]
     rw[if_pos (by simp[he])]at b9;refine zg hP (a4 _ _).thenT.inBlock fun T d=> ?_
     have a5:Hid (yN N O B mb st bv cv LB LCm w (R.togL (R.baseC st.cms) st.cms l) (.tuple #[.slice none 0 0,.int .i64 rb.2]) (re W7 T d)):=by
      show yN _ _ _ _ _ _ _ _ _ _ _ _ _;rw[b9.out];exact⟨none,0,rfl,⟨[],rfl,⟨none,0,rfl,j0a _,by unfold maxLen;omega,fun h=>absurd h (LE _)⟩,fun q hq=>by cases hq⟩,g6.out.re T d,g4.out.re T d⟩
     clear he b9 g6 g4 b1 i3 i1 c9 d7;generalize re W7 T d=W8 at*;go_wp2;refine⟨rfl,_,fun W=> ?_,a5.out⟩;simp[results,MP,go_sem]
  ·have m9:¬(k:Int)<((l.length-1:Nat):Int):=by omega
   have k5:Hid (R.togL (R.baseC st.cms) st.cms l=(tk,0)):=by
    show _=_;rw[h0.out,List.drop_eq_nil_of_le (by omega),R.togF]
   refine zg hP (a4 _ _) fun T d=> ?_
   have a7:=z4 (g8.out.re T d);have a6:=z4 (g5.out.re T d);have b5:Hid (PT (re W4 T d) N (.slice ta tk.length tc) tk):=c6.out;clear g8 g5 i5 c6 c8 d6 h0;generalize re W4 T d=W5 at*;go_wp2;refine zg hP a8 fun T d=> ?_
   have a5:Hid (yN N O B mb st bv cv LB LCm w (R.togL (R.baseC st.cms) st.cms l) (.tuple #[.slice ta tk.length tc,.int .i64 0]) (re W5 T d)):=by
    show yN _ _ _ _ _ _ _ _ _ _ _ _ _;rw[k5.out];exact⟨ta,tc,rfl,b5.out,a7.out.re T d,a6.out.re T d⟩
   clear a7 a6 b5 k5;generalize re W5 T d=W6 at*;go_wp2;refine⟨rfl,_,fun W=> ?_,a5.out⟩;simp[results,MP,go_sem]
end
theorem Jp {w:eX}{base:Nat}{e:TypeId}{size:Nat}{v:eB}{n:Nat}{xs:List eB}(h:w.ownsRow base e size v n xs):w.ownsRow 0 e size v n xs:=by
 obtain⟨h1,h2⟩:=h;refine⟨h1,?_⟩;rcases h2 with h2|⟨g,cap,a0,e1,_,e3⟩
 ·exact .inl h2
 ·exact .inr ⟨g,cap,a0,e1,Nat.zero_le _,e3⟩
theorem cK (cms:List R.Cm)(a b:Nat):(R.latC cms a b).length≤cms.length:=by
 unfold R.latC;refine j0f (pY _ _) ?_;rw[List.length_range'];exact j0a _
theorem CJ {N O:Nat→Prop}{B mb:Nat}{st:R.St}{bv cv:eB}{LB:List BrP}{LCm:List (R.Cm×eB×eB)}(hi:Inv st)(a:Nat):1≤a→a≤st.cms.length→∀b,1≤b→b≤st.cms.length→∀w,RI N O B mb st bv cv LB LCm w→
  zF sU 103 #[.agg #[.pointer (some ⟨B,0,none⟩),.map (some mb)],.int .i64 (a:Int),.int .i64 (b:Int)] w (yN N O B mb st bv cv LB LCm w (R.baseC st.cms a b)):=by
 induction a using Nat.strongRecOn with
 |_ a ih=>
  intro a4 a1 b a5 a6 w hR;refine CL hi hR a4 a1 a5 a6 fun W v a3 hN=> ?_
  obtain⟨⟨va,vc,rfl⟩,ho,hk⟩:=hN;have hl:∀x∈R.latC st.cms a b,1≤x∧x≤st.cms.length:=fun x hx=>by
   have:=(VS a b x).1 hx;exact⟨this.1,this.2.1⟩
  have a0:=j0f (cK st.cms a b) hi.few;refine gK hi a3 (R.latC st.cms a b) va vc hl a0 (Jp ho) (fun g hg=> ?_) fun W' x y a2 hx hy h2=> ?_
  ·have h1:=(ho.lt g hg).1
   have h2:=hR.lt mb hR.mem;omega
  ·have a7:x<a:=by
    cases hc:R.latC st.cms a b with
    |nil=>rw[hc]at hx;cases hx
    |cons p q=>
     cases q with
     |nil=>rw[hc]at h2;simp at h2
     |cons p2 q2=>exact GU hi.wf a1 hc x (by rw[←hc];exact hx)
   exact ih x a7 (hl x hx).1 (hl x hx).2 y (hl y hy).1 (hl y hy).2 W' a2
def Cu (M:Nat→Prop)(W:eX)(r:List R.Leaf×Int)(v:eB)(W' :eX):Prop:=∃ta tc,v= .tuple #[.slice ta r.1.length tc,.int .i64 r.2]∧PT W' M (.slice ta r.1.length tc) r.1∧ze W W'
theorem oT (W:eX):(Instr.makeMap 150 none).run sU W= .ok (.map (some W.heap.size)) (W.alloc (.map #[] 0)):=by
 unfold Instr.makeMap;simp[newObj,Sem.run]
theorem Jw (W:eX):(W.alloc (.map #[] 0)).heap[W.heap.size]? =some (.map #[] 0):=heap_alloc_new W _
section
theorem GG {M O:Nat→Prop}{B:Nat}{st:R.St}{bv cv:eB}{LB:List BrP}{LCm:List (R.Cm×eB×eB)}{w:eX}(hi:Inv st)(hx:PSx w M O B st bv cv LB LCm)(hM:∀b,M b→b<w.heap.size){a b:Nat}(b4:1≤a)(b5:a≤st.cms.length)(b6:1≤b)(b7:b≤st.cms.length):
  zF sU 64 #[.pointer (some ⟨B,0,none⟩),.int .i64 (a:Int),.int .i64 (b:Int)] w (Cu M w (R.baseC st.cms a b)):=by
 have hP:=xx;refine zL hP MQ rfl ?_;have a5:ReC (zZ sU Tryz.f64 (Cu M w (R.baseC st.cms a b))):=ReC.body fun v w' T d ⟨ta,tc,h1,h2,h3⟩=>⟨ta,tc,h1,h2,h3.re T d⟩
 simp only[Tryz.ntmps64,tQ,nM,pC,tR,tS,tT,tU,tV,tX,nV,mJ];refine z7 hP a5 fun T d=> ?_
 have HX:=z4 (hx.re T d);have HK:=z4 ((ze.refl w).re T d);have b1:∀b,M b→b<(re w T d).heap.size:=hM
 generalize re w T d=W at*;go_wp2;refine z7 hP a5 fun T d=> ?_
 have a2:=z4 (HX.out.re T d);have a3:=z4 (HK.out.re T d);have b3:∀b,M b→b<(re W T d).heap.size:=b1
 clear HX HK b1 hx;generalize re W T d=W1 at*;have c6:=oT W1;have a9:Hid (∀o:Obj,RI (fun b=>M b∨b=W1.heap.size) O B W1.heap.size st bv cv LB LCm ((W1.alloc (.map #[] 0)).alloc o)):=fun o=>by
  have b8:tH W1.heap.size W1 ((W1.alloc (.map #[] 0)).alloc o):=((j0g _ _).alloc (j0a _) _).alloc (by simp) _;refine⟨a2.out.kept (Z:=fun _=>False) (zf.of_below b8) (fun _ e=>e.elim) (fun b hb=> ?_) (fun b hb=> .inl (a2.out.sub b hb)),fun b hb=> ?_,.inr rfl,fun e=>by have:=a2.out.lt _ e;omega,[],⟨#[],0,?_,rfl,fun p hp=>by cases hp⟩,fun p hp=>by cases hp⟩
  ·rcases hb with hb|hb
   ·exact .inl hb
   ·exact .inr (by omega)
  ·rcases hb with hb|hb
   ·have:=b3 b hb;simp;omega
   ·simp;omega
  ·rw[heap_alloc_old (W1.alloc (.map #[] 0)) o (by simp)]
   exact Jw W1
 have a7:Hid (∀o:Obj,ze w ((W1.alloc (.map #[] 0)).alloc o)):=fun o=>(a3.out.alloc _).alloc _
 have c8:=a3.out.size;go_wp2;clear c6;refine zn hP ?_;refine zP hP 3 a5.thenT rfl rfl rfl MK (by decide) rfl fun T d=> ?_
 have a8:=z4 ((a9.out (.cells #[.pointer (some ⟨B,0,none⟩),.map (some W1.heap.size)] 152)).re T d);have a0:=z4 ((a7.out (.cells #[.pointer (some ⟨B,0,none⟩),.map (some W1.heap.size)] 152)).re T d);have x0:(re ((W1.alloc (.map #[] 0)).alloc (.cells #[.pointer (some ⟨B,0,none⟩),.map (some W1.heap.size)] 152)) T d).cell? ⟨W1.heap.size+1,0,none⟩=some (.pointer (some ⟨B,0,none⟩)):=by
  show((W1.alloc (.map #[] 0)).alloc (.cells #[.pointer (some ⟨B,0,none⟩),.map (some W1.heap.size)] 152)).cell? ⟨W1.heap.size+1,0,none⟩=_;simp[go_sem]
 have x1:(re ((W1.alloc (.map #[] 0)).alloc (.cells #[.pointer (some ⟨B,0,none⟩),.map (some W1.heap.size)] 152)) T d).cell? ⟨W1.heap.size+1,1,none⟩=some (.map (some W1.heap.size)):=by
  show((W1.alloc (.map #[] 0)).alloc (.cells #[.pointer (some ⟨B,0,none⟩),.map (some W1.heap.size)] 152)).cell? ⟨W1.heap.size+1,1,none⟩=_;simp[go_sem]
 clear a9 a7 a2 a3;generalize re ((W1.alloc (.map #[] 0)).alloc (.cells #[.pointer (some ⟨B,0,none⟩),.map (some W1.heap.size)] 152)) T d=W2 at*;generalize W1.heap.size=mb at*;simp only[aX,ME,MF,MG];go_wp2;refine⟨_,_,by simp[Act.eval],CJ hi a b4 b5 b b6 b7 W2 a8.out,?_⟩;rintro v W3 ⟨ta,tc,rfl,b2,c7,a1⟩ T d;have a4:Hid (Cu M w (R.baseC st.cms a b) (.tuple #[.slice ta (R.baseC st.cms a b).1.length tc,.int .i64 (R.baseC st.cms a b).2]) (re W3 T d)):=by
  have a6 :PT W3 M (.slice ta (R.baseC st.cms a b).1.length tc) (R.baseC st.cms a b).1:=PT.step b2 (zf.refl (fun _=>False) W3) (fun _ e=>e.elim) (fun b hb=> .inl (.inl hb));refine⟨ta,tc,rfl,a6,?_⟩;have b9:ze w W3:=⟨a1.os.trans a0.out.os,a1.output.trans a0.out.output,j0f a0.out.size a1.size,fun k hk=>(a1.block k (j0b hk a0.out.size) (by omega)).trans (a0.out.block k hk)⟩
  exact b9.re T d
 clear b2 c7 a1 a8 a0 x0 x1;generalize re W3 T d=W4 at*;generalize R.baseC st.cms a b=rb at*;go_wp2;refine Xj hP ?_;refine⟨rfl,_,fun W=> ?_,a4.out⟩;simp[results,Tryz.results64,go_sem]
end
def Fz (w:eX)(r:List UInt8×Int)(v:eB)(w' :eX):Prop:=v= .tuple #[.string ⟨r.1.toArray⟩,.int .i64 r.2]∧ze w w'
theorem Zp.keptM {w w' :eX}(h:Zp w)(hk:ze w w'):Zp w' :=by
 have:=(h.below hk.below).re w'.tape w'.drawn;exact this
section
theorem Bw {M O:Nat→Prop}{B:Nat}{st:R.St}{w:eX}(hi:Inv st)(h:PS w M O B st)(hM:∀b,M b→b<w.heap.size)(hG:Zp w)(a b:Int):
  zF sU 35 #[.pointer (some ⟨B,0,none⟩),.int .i64 a,.int .i64 b] w (Fz w (R.baseAt st a b)):=by
 have hP:=xx;have c7:=hi.few;refine zL hP Tryz.func35 rfl ?_;have a4:ReC (zZ sU Tryz.f35 (Fz w (R.baseAt st a b))):=ReC.body fun v w' T d ⟨h1,h2⟩=>⟨h1,h2.re T d⟩
 simp only[Tryz.ntmps35,tQ,nM,pC,tR,tS,tT,tU,tV,tX,nV,mJ];by_cases ha:1≤a∧a≤(st.cms.length:Int)
 ·by_cases hb:1≤b∧b≤(st.cms.length:Int)
  ·obtain⟨an,rfl⟩:∃an:Nat,a=(an:Int):=⟨a.toNat,by omega⟩
   obtain⟨bn,rfl⟩:∃bn:Nat,b=(bn:Int):=⟨b.toNat,by omega⟩
   have HD:Hid (R.baseAt st (an:Int) (bn:Int)=if(R.baseC st.cms an bn).2≠0 then([],(R.baseC st.cms an bn).2)else(R.Written (R.baseC st.cms an bn).1,0)):=by
    show _=_;rw[R.baseAt,if_neg (by omega)];rfl
   refine z7 hP a4 fun T d=> ?_
   have HS:=z4 (h.re T d);have HK:=z4 ((ze.refl w).re T d);generalize re w T d=W at*;go_wp2;refine z7 hP a4 fun T d=> ?_
   have b4:=z4 (HS.out.re T d);have b1:=z4 (HK.out.re T d);have a1:=ZX (HS.out.re T d) (an:Int);have a2:=ZX (HS.out.re T d) (bn:Int);rw[decide_eq_true ha]at a1;rw[decide_eq_true hb]at a2;have a3:=z4 a1;have a5:=z4 a2;clear HS HK a1 a2;generalize re W T d=W1 at*;go_wp2_with fail
   refine a3.out.mono ?_;rintro e W2 ⟨rfl,rfl⟩;go_wp2_with fail
   refine a5.out.mono ?_;rintro e W3 ⟨rfl,rfl⟩;go_wp2;clear a3 a5;refine zn hP ?_;refine zP hP 3 a4.thenT rfl rfl rfl MQ (by decide) rfl fun T d=> ?_
   have a7:=z4 (b1.out.re T d);have c6:=b4.out.re T d;obtain⟨bv,cv,LB,LCm,b9⟩:=c6;have b5:=z4 b9;clear b4 b1 b9;generalize re W3 T d=W4 at*;simp only[aX,ME,MF,MG];go_wp2;refine⟨_,_,by simp[Act.eval],GG hi b5.out (fun k hk=>j0b (hM k hk) a7.out.size) (a:=an) (b:=bn) (by omega) (by omega) (by omega) (by omega),?_⟩;rintro v W5 ⟨ta,tc,rfl,b8,b7⟩ T d;have a8:=z4 ((a7.out.trans b7).re T d);have b3:Hid (PT (re W5 T d) M (.slice ta (R.baseC st.cms an bn).1.length tc) (R.baseC st.cms an bn).1):=b8;have b2:=z4 (ko hi.trees an bn);clear b8 b7 b5 a7;generalize re W5 T d=W6 at*;generalize R.baseC st.cms an bn=rb at*;go_wp2;refine zg hP a4 fun T d=> ?_
   have a6:=z4 (a8.out.re T d);have a9:=z4 (YG (.slice ta rb.1.length tc) rb.1 (re W6 T d) M b3.out b2.out.ok (by have:=b2.out.few;omega) (hG.keptM (a8.out.re T d)));clear a8 b3;generalize re W6 T d=W7 at*;by_cases he:rb.2=0
   ·have q:(rb.2 !=0)=false:=by simp[he]
    rw[if_neg (by simp[he])]at HD;clear he;go_wp2_with fail
    refine a9.out.mono ?_;rintro e W8 ⟨rfl,b6⟩;have a0:Hid (Fz w (R.baseAt st (an:Int) (bn:Int)) (.tuple #[.string ⟨(R.Written rb.1).toArray⟩,.int .i64 0]) W8):=⟨by rw[HD.out],a6.out.trans (ze.of_below b6)⟩
    clear a9 a6 b6;go_wp2;refine⟨rfl,_,fun W=> ?_,a0.out⟩;simp[results,MR,go_sem]
   ·have q:(rb.2 !=0)=true:=by simp[he]
    rw[if_pos (by simp[he])]at HD;have a0:Hid (Fz w (R.baseAt st (an:Int) (bn:Int)) (.tuple #[.string ⟨#[]⟩,.int .i64 rb.2]) W7):=⟨by rw[HD.out],a6.out⟩
    clear he a9 a6;go_wp2;refine⟨rfl,_,fun W=> ?_,a0.out⟩;simp[results,MR,go_sem]
  ·have HD:Hid (R.baseAt st a b=([],10)):=by show _=_;rw[R.baseAt,if_pos (by omega)]
   refine zg hP a4 fun T d=> ?_
   have a1:=ZX (h.re T d) a;have a2:=ZX (h.re T d) b;rw[decide_eq_true ha]at a1;rw[decide_eq_false hb]at a2;have a3:=z4 a1;have a5:=z4 a2;have a0:Hid (Fz w (R.baseAt st a b) (.tuple #[.string ⟨#[]⟩,.int .i64 10]) (re w T d)):=⟨by rw[HD.out],(ze.refl w).re T d⟩
   clear a1 a2 h hG hM;generalize re w T d=W at*;go_wp2_with fail
   refine a3.out.mono ?_;rintro e W2 ⟨rfl,rfl⟩;go_wp2_with fail
   refine a5.out.mono ?_;rintro e W3 ⟨rfl,rfl⟩;go_wp2;refine⟨rfl,_,fun W=> ?_,a0.out⟩;simp[results,MR,go_sem]
 ·have HD:Hid (R.baseAt st a b=([],10)):=by show _=_;rw[R.baseAt,if_pos (by omega)]
  refine zg hP a4 fun T d=> ?_
  have a1:=ZX (h.re T d) a;rw[decide_eq_false ha]at a1;have a3:=z4 a1;have a0:Hid (Fz w (R.baseAt st a b) (.tuple #[.string ⟨#[]⟩,.int .i64 10]) (re w T d)):=⟨by rw[HD.out],(ze.refl w).re T d⟩
  clear a1 h hG hM;generalize re w T d=W at*;go_wp2_with fail
  refine a3.out.mono ?_;rintro e W2 ⟨rfl,rfl⟩;go_wp2;refine⟨rfl,_,fun W=> ?_,a0.out⟩;simp[results,MR,go_sem]
end
structure dp (O:Nat→Prop)(w w' :eX):Prop where
 os:w'.os=w.os
 output:w'.output=w.output
 size:w.heap.size≤w'.heap.size
 block:∀k,k<w.heap.size→¬O k→w'.heap[k]? =w.heap[k]?
def yd (w w' :eX)(M O:Nat→Prop)(B:Nat)(st' :R.St):Prop:=∃O',PS w' (fun b=>M b∨O' b) O' B st' ∧dp O w w' ∧(∀b,O' b→O b∨w.heap.size≤b)
theorem yd.re {w w' :eX}{M O:Nat→Prop}{B:Nat}{st:R.St}(h:yd w w' M O B st)(T:Nat→iC→Nat)(d:Nat):yd w (mG w' T d) M O B st:=by
 obtain⟨O',h1,h2,h3⟩:=h;exact⟨O',h1.re T d,⟨h2.os,h2.output,h2.size,h2.block⟩,h3⟩
theorem yd.of {w w1 w' :eX}{M O:Nat→Prop}{B:Nat}{st:R.St}(k:ze w w1)(h:zx w1 w' M O B st):yd w w' M O B st:=by
 obtain⟨O',h1,h2,h3⟩:=h;refine⟨O',h1,⟨h2.os.trans k.os,h2.output.trans k.output,j0f k.size h2.size,fun b hb hn=>(h2.block b (j0b hb k.size) hn).trans (k.block b hb)⟩,fun b hb=> ?_⟩;rcases h3 b hb with h|h
 ·exact .inl h
 ·exact .inr (j0f k.size h)
theorem yd.same {w w' :eX}{M O:Nat→Prop}{B:Nat}{st:R.St}{bv cv:eB}{LB:List BrP}{LCm:List (R.Cm×eB×eB)}(h:PSx w M O B st bv cv LB LCm)(k:ze w w'):yd w w' M O B st:=by
 refine yd.of k ?_;have:=zx.same (w:=w') ⟨_,_,_,_,h.keptM k⟩ (j0g _ _);exact this
def yG (w:eX)(M O:Nat→Prop)(B:Nat)(r:(Int×Int)×R.St)(v:eB)(w' :eX):Prop:=v= .tuple #[.int .i64 r.1.1,.int .i64 r.1.2]∧yd w w' M O B r.2
theorem cN (st:R.St)(name:List UInt8)(a n:Nat)(h:(R.joinC st.cms a n).2=0):R.joinN st name a n=Zd st name {tree:=(R.joinC st.cms a n).1,parents:=[a,n]}:=by
 unfold R.joinN;rw[if_neg (by simp[h])];rfl
section
theorem Bq {M O:Nat→Prop}{B:Nat}{st:R.St}{bv cv:eB}{LB:List BrP}{LCm:List (R.Cm×eB×eB)}{w:eX}(hi:Inv st)(hx:PSx w M O B st bv cv LB LCm)(hM:∀b,M b→b<w.heap.size)(hG:Zp w)(h6:∀b,O b→6≤b)(f4:st.packed.length≤100000000000)
  (name:List UInt8)(hf:R.fnd st.brs name<st.brs.length)(hl:R.fnd st.brs name<LB.length)(a n:Nat)(hh:(LB[R.fnd st.brs name]'hl).1.head=a)(e6:1≤a)(b8:a≤st.cms.length)(e7:1≤n)(c8:n≤st.cms.length):
  zF sU 49 #[.pointer (some ⟨B,0,none⟩),.pointer (some ⟨(LB[R.fnd st.brs name]'hl).2.1,0,none⟩),.int .i64 (n:Int)] w (yG w M O B (R.joinN st name a n)):=by
 have hP:=xx;have a8:=hi.few;refine zL hP Tryz.func49 rfl ?_;have b7:ReC (zZ sU Tryz.f49 (yG w M O B (R.joinN st name a n))):=ReC.body fun v w' T d ⟨h1,h2⟩=>⟨h1,h2.re T d⟩
 simp only[Tryz.ntmps49,tQ,nM,pC,tR,tS,tT,tU,tV,tX,nV,mJ];have b3:Hid (∀W:eX,PSx W M O B st bv cv LB LCm→W.cell? ⟨(LB[R.fnd st.brs name]'hl).2.1,1,none⟩=some (.int .i64 (a:Int))):=fun W hW=>by
  have:=(hW.at_ _ (j0c hl)).c1;rw[hh]at this;exact this
 have a2:Hid (∀(W:eX) (c:R.Cm) (pa:Option Addr) (pc:Nat) (ta:Option Addr) (tn tc:Nat),ze w W→PSx W M O B st bv cv LB LCm→PT W M (.slice ta tn tc) c.tree→Rd W M (.slice pa c.parents.length pc) c.parents.length (Ym c.parents)→OkT c.tree→(∀p∈c.parents,1≤p∧p≤st.cms.length)→c.parents.length≤2→
   Calls sU 58 #[.pointer (some ⟨B,0,none⟩),.pointer (some ⟨(LB[R.fnd st.brs name]'hl).2.1,0,none⟩),.agg #[.slice pa c.parents.length pc,.slice ta tn tc]] W fun e w' =>e= .returned (.tuple #[.int .i64 (Zd st name c).1.1,.int .i64 (Zd st name c).1.2])∧zx W w' M O B (Zd st name c).2):=fun W c pa pc ta tn tc hk hW h1 h2 h3 h4 h5=>uC hW hi name hf hl c pa pc ta tn tc h1 h2 (fun b hb=>j0b (hM b hb) hk.size) h3 h4 h5 f4 (hG.keptM hk) h6
 generalize(LB[R.fnd st.brs name]'hl).2.1=bb at*;clear hh;refine z7 hP b7 fun T d=> ?_
 have HX:=z4 (hx.re T d);have HK:=z4 ((ze.refl w).re T d);generalize re w T d=W at*;go_wp2;refine zn hP ?_;refine zP hP 6 b7.thenT rfl rfl rfl MQ (by decide) rfl fun T d=> ?_
 have b2:=z4 (HX.out.re T d);have b4:=z4 (HK.out.re T d);clear HX HK;generalize re W T d=W1 at*;have x1:=b3.out W1 b2.out;simp only[aX,ME,MF,MG];go_wp2;refine⟨_,_,by simp[Act.eval],GG hi b2.out (fun k hk=>j0b (hM k hk) b4.out.size) (a:=a) (b:=n) e6 b8 e7 c8,?_⟩;rintro v W2 ⟨tb,d4,rfl,e9,c7⟩ T d;have d9:=z4 ((b4.out.trans c7).re T d);have e3:=z4 ((b2.out.keptM c7).re T d);have d5:Hid (PT (re W2 T d) M (.slice tb (R.baseC st.cms a n).1.length d4) (R.baseC st.cms a n).1):=e9;have a5:=z4 (ko hi.trees a n);clear e9 c7 b2 b4 x1;generalize re W2 T d=W3 at*;have a1:Hid (R.joinC st.cms a n=if(R.baseC st.cms a n).2≠0 then([],(R.baseC st.cms a n).2)else R.joinT (R.baseC st.cms a n).1 (R.treeC st.cms a) (R.treeC st.cms n)):=rfl;have a9:=z4 (cN st name a n);have a3:Hid ((R.joinC st.cms a n).2≠0→R.joinN st name a n=((0,(R.joinC st.cms a n).2),st)):=fun h=>by unfold R.joinN;rw[if_pos h]
 generalize R.baseC st.cms a n=rb at*;go_wp2;refine zg hP b7 fun T d=> ?_
 have b1:=z4 (d9.out.re T d);have a7:=z4 (e3.out.re T d);have d6:Hid (PT (re W3 T d) M (.slice tb rb.1.length d4) rb.1):=d5.out;clear d9 e3 d5;generalize re W3 T d=W4 at*;by_cases he:rb.2=0
 ·have q:(rb.2 !=0)=false:=by simp[he]
  rw[if_neg (by simp[he])]at a1;clear he;have x1:=b3.out W4 a7.out;have e1:=z4 (Yn a7.out a b8 a8);have e2:=z4 (Yn a7.out n c8 a8);go_wp2_with fail
  refine e1.out.mono ?_;rintro e W5 ⟨t1,c1,rfl,c9,rfl⟩;rw[kx]at c9⊢;go_wp2_with fail
  refine e2.out.mono ?_;rintro e W6 ⟨t2,c2,rfl,d3,rfl⟩;rw[kx]at d3⊢;have d8:=z4 (Oy tb t1 t2 d4 c1 c2 rb.1 (R.treeC st.cms a) (R.treeC st.cms n) W6 M (fun b hb=>j0b (hM b hb) b1.out.size) d6.out c9 d3 a5.out (ye hi.trees a) (ye hi.trees n));clear e1 e2 c9 d3;go_wp2_with fail
  refine d8.out.mono ?_;rintro e W7 ⟨tj,f5,rfl,e8,b9⟩;have a4:=z4 (b1.out.trans (ze.of_below b9));have b6:=z4 (a7.out.below b9);have b5:=z4 e8;have a6:=z4 (kb a5.out (ye hi.trees a) (ye hi.trees n));clear d8 e8 b9 b1 a7 d6 x1;rw[←a1.out]at b5 a6⊢;by_cases hj:(R.joinC st.cms a n).2=0
  ·have q3:((R.joinC st.cms a n).2 !=0)=false:=by simp[hj]
   have d7:=z4 (a9.out hj);clear hj a1 a3 a9;generalize R.joinC st.cms a n=rj at*;have x1:=b3.out W7 b6.out;have HA:=z4 (fun(W:eX) pa pc hk hX hp hr=>a2.out W {tree:=rj.1,parents:=[a,n]} pa pc tj rj.1.length f5 hk hX hp hr a6.out (fun p hp=>by
    simp only[List.mem_cons,List.not_mem_nil,or_false]at hp;rcases hp with rfl|rfl
    ·exact⟨e6,b8⟩
    ·exact⟨e7,c8⟩) (by simp))
   go_wp2_with fail
   have c6:tH W7.heap.size W7 (W7.alloc (.cells #[.int .i64 (a:Int),.int .i64 (n:Int)] 3)):=(j0g _ _).alloc (j0a _) _;have f0:Rd (W7.alloc (.cells #[.int .i64 (a:Int),.int .i64 (n:Int)] 3)) M (.slice (some ⟨W7.heap.size,0,none⟩) 2 2) 2 (Ym [a,n]):=⟨_,2,rfl,j0a _,by unfold maxLen;omega,fun _=>⟨W7.heap.size,0,rfl,by simp,fun hm=>by have:=hM _ hm;have:=a4.out.size;omega,fun j u hu=>by
    match j,hu with
    |0,hu=>simp[Ym]at hu;subst hu;simp
    |1,hu=>simp[Ym]at hu;subst hu;simp
    |j+2,hu=>simp[Ym]at hu⟩⟩
   refine(HA.out _ (some ⟨W7.heap.size,0,none⟩) 2 (a4.out.alloc _) (b6.out.below c6) (b5.out.below c6) f0).mono ?_;rintro e W8 ⟨rfl,f3⟩;have a0:Hid (yG w M O B (R.joinN st name a n) (.tuple #[.int .i64 (Zd st name {tree:=rj.1,parents:=[a,n]}).1.1,.int .i64 (Zd st name {tree:=rj.1,parents:=[a,n]}).1.2]) W8):=by
    show yG _ _ _ _ _ _ _;rw[d7.out];exact⟨rfl,yd.of (a4.out.alloc _) f3⟩
   clear c6 f0 f3 HA a2 b6 a4 b5 d7 x1;generalize Zd st name {tree:=rj.1,parents:=[a,n]}=ad at*;go_wp2;refine⟨rfl,_,fun W=> ?_,a0.out⟩;simp[results,MS,go_sem]
  ·have q3:((R.joinC st.cms a n).2 !=0)=true:=by simp[hj]
   have a0:Hid (yG w M O B (R.joinN st name a n) (.tuple #[.int .i64 0,.int .i64 (R.joinC st.cms a n).2]) W7):=by
    show yG _ _ _ _ _ _ _;rw[a3.out hj];exact⟨rfl,yd.same hx a4.out⟩
   clear hj a1 a3 a9;generalize R.joinC st.cms a n=rj at*;go_wp2;refine⟨rfl,_,fun W=> ?_,a0.out⟩;simp[results,MS,go_sem]
 ·have q:(rb.2 !=0)=true:=by simp[he]
  rw[if_pos (by simp[he])]at a1;have a0:Hid (yG w M O B (R.joinN st name a n) (.tuple #[.int .i64 0,.int .i64 rb.2]) W4):=by
   show yG _ _ _ _ _ _ _;rw[a3.out (by rw[a1.out];exact he),a1.out];exact⟨rfl,yd.same hx b1.out⟩
  clear he a1 a3 a9;go_wp2;refine⟨rfl,_,fun W=> ?_,a0.out⟩;simp[results,MS,go_sem]
end
