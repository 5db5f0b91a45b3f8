import Derived.Test.YtolgebdmffcemaaGreatDoorQ33
import Derived.Laws.BytesArg
import Derived.Test.YtolgebdmffcemaaGreatDoorQ22
import Derived.Shelf.RegionOpen
import Derived.OwnWalkIn
import Derived.TacticsInMore
import Derived.LoopNIn
import Derived.LoopIn
import Derived.Lib.AtoiErrMem
set_option linter.all false
set_option maxHeartbeats 20000000
set_option maxRecDepth 1000000
open Go.Lib renaming byteCells→rV,indexByte→wW,decFrom→LP,decNat→LQ,decDigits→nS,atoi→LR,itoa→nY
open Go.Proofs.Tryz renaming prog→rJ,underlying100→DC,underlying5→LH,underlying9→DD,underlying3→LI,underlying25→LJ,func301→LN,strings_Index_one→LO,func212→LS,ntmps212→LU
open Go.World renaming cell?_of_block→pU,cell?_setCell_same'→LM,frozen?_setCell→rW,cell?_setCell_other→EV,putObj_heap_other→wS
open List renaming drop_succ_cons→IR,length_append→mB,range→lQ,mem_map→pH,cons_append→lN,size_toArray→sE,length_cons→mC,length_nil→mS,push_toArray→sJ,append_toArray→sL,nil_append→mJ,mem_cons→iC,not_mem_nil→iI
open Nat renaming zero_le→sQ,reduceAdd→sF,reduceSub→sG
open ByteArray renaming mk→rS,ext→LK,data_extract→LL,size→aF
open Array renaming replicate_succ→sH,replicate_zero→sI
open Option renaming getD_some→pJ
namespace Go.Proofs.YtolgebdmffcemaaGreatDoor
open Go Go.Conc Go.RowKit Go.ChangeShapes Go.WideShapes Go.ChangeAt Go.Shelf
theorem bp {w:World}{pv:Value}{pk:List UInt8}(h:w.ownsRow 0 5 1 pv pk.length (rV pk)):(convert 100 9 pv).run rJ w= .ok (.string ⟨pk.toArray⟩) w:=by
 obtain⟨a,cap,rfl,h1,h2,h3,h4⟩:=zl h
 cases a with
 |none=>
  have e:pk=[]:=List.length_eq_zero_iff.1 (h3 rfl).1;subst e;exact run_convert_bytes_nil w 100 5 DC LH _ _ 9 DD
 |some ad=>
  obtain⟨g,rfl,_,_,_,h5⟩:=h4 ad rfl;refine run_convert_bytes_back _ 100 9 5 ⟨g,0,none⟩ cap pk DC LH DD ?_;intro j hj;rw[yz,Nat.zero_add];refine h5 j _ ?_;simp[rV,j0d hj]
theorem KS.pack {w0 w:World}{H:Nat→Prop}{B c:Nat}{st:R.St}(h:KS w0 H B st c w):
  Calls rJ 21 #[.pointer (some ⟨B,0,none⟩)] w fun e w' =>e= .returned (.string ⟨st.packed.toArray⟩)∧w' =w:=by
 obtain⟨O,⟨bv,cv,LB,LCm,hx⟩,_⟩:=h;obtain⟨pv,hp⟩:=hx.pk;have c2:=hp.c2;have a1:=bp hp.row;obtain⟨pa,pn,pc,a0⟩:∃a n k,pv= .slice a n k:=by obtain⟨a,k,e,_⟩:=zl hp.row;exact⟨a,_,k,e⟩
 subst a0;clear hp hx;generalize st.packed=pk at*;go_enter Tryz.func21,Tryz.ntmps21;go_wp2;go_ret;exact⟨YI rfl,rfl⟩
theorem Ch:(R.made aw0 [97] [] false).2.packed=[66,0,2,0,97,166]:=by decide+kernel
theorem fH {w:World}(hG:Zy w)(h6:6≤w.heap.size):
  Calls rJ 15 #[] w fun e w' =>e= .returned (.bool true)∧zf w w' :=by
 have HS:=z6 (KS.new (w0:=w) (w:=w) (H:=fun b=>b<w.heap.size) hG (Yq.refl _ _) (fun b hb=>by omega) (fun b hb=>hb));go_enter Tryz.func15,Tryz.ntmps15;go_wp2_with fail
 refine(GI w).mono ?_;rintro e W4 ⟨rfl,rfl⟩;generalize hV:w.alloc (.cells #[.slice none 0 0,.slice none 0 0,.slice none 0 0] 102)=V0 at*;generalize hB:w.heap.size=B at*;go_wp2_with fail
 refine(HS.out.branch (by omega) [97] (by unfold maxLen;simp) BR).mono ?_;rintro e V1 ⟨rfl,hs⟩;have a1:=z6 hs;have a0:=z6 hs.pack;rw[Ch]at a0;clear hs HS hV;go_wp2_with fail
 refine a0.out.mono ?_;rintro e V2 ⟨rfl,rfl⟩;go_wp2;go_ret;exact⟨rfl,a1.out.held.m fun b hb=>by omega⟩
section
variable {w0 w:World}{H:Nat→Prop}{B c:Nat}{st:R.St}
end
section
def Gp:List Int:=[5,1,9,1,5,5,2,2,3,3,3,10,10,8]
structure dP (K:World→Prop)(ge gw:Nat)(X:World):Prop where
 ks:K X
 e:∀i,i<14→X.cell? ⟨ge,i,none⟩=some (.int .i64 (Gp.getD i 0))
 w:∀i,i<14→X.cell? ⟨gw,i,none⟩=some (.int .i64 (Gp.getD i 0))
 le:ge<X.heap.size
 lw:gw<X.heap.size
theorem FP {w w' :World}{v:Value}{n:Nat}{xs:List Value}(h:Rd w (fun _=>False) v n xs)(k:zf w w'):Rd w' (fun _=>False) v n xs:=by
 obtain⟨a,cap,rfl,h1,h2,h3⟩:=h;refine⟨a,cap,rfl,h1,h2,fun h0=> ?_⟩;obtain⟨b,off,h4,h5,h6,h7⟩:=h3 h0;exact⟨b,off,h4,j0b h5 k.size,h6,fun j u hu=>by rw[pU (a:=⟨b,off+j,none⟩) (k.block b h5)];exact h7 j u hu⟩
end
section
structure dO (Q:World→Prop)(g:Nat)(L:List Value)(X:World):Prop where
 ks:Q X
 lt:g<X.heap.size
 cell:∀j (h:j<L.length),X.cell? ⟨g,j,none⟩=some L[j]
end
section
variable {H:Type}{enc:TypeId×Value→H}
theorem uy:Tryz.prog.cellsOf 48=4:=by kernel_rfl
theorem four {α:Type}(l:List α)(h:l.length=4):∃a b c d,l=[a,b,c,d]:=by
 rcases l with _|⟨a,l⟩
 ·simp at h
 rcases l with _|⟨b,l⟩
 ·simp at h
 rcases l with _|⟨c,l⟩
 ·simp at h
 rcases l with _|⟨d,l⟩
 ·simp at h
 rcases l with _|⟨x,l⟩
 ·exact⟨a,b,c,d,rfl⟩
 ·simp at h
def qt (o:R.Raw):List Value:=[.int .i64 o.kind,.int .i64 o.br,.int .i64 o.path,.int .i64 o.n]
theorem FZ {w:World}{sp:Nat→Bool}{hd:Bool}{n:Nat}{cs:List Value}{x:DataW H×List MemPlace}(h:DataW.trod enc rJ w 0 sp hd n 48 cs=some x):
  ∃o:R.Raw,cs=qt o∧okR o:=by
 obtain⟨xs,m,rfl,rfl,hl,a0,hf⟩:=DataW.trod_struct Tryz.underlying48 h;clear h;rw[uy]at hl;obtain⟨c0,c1,c2,c3,rfl⟩:=four cs hl;obtain⟨x0,x1,x2,x3,rfl⟩:=four xs a0;have h0:DataW.trod enc rJ w 0 sp hd m 3 (([c0,c1,c2,c3].drop 0).take (Tryz.prog.cellsOf 3))=some x0:=hf 0 _ rfl;have h1:DataW.trod enc rJ w 0 sp hd m 3 (([c0,c1,c2,c3].drop 1).take (Tryz.prog.cellsOf 3))=some x1:=hf 1 _ rfl;have h2:DataW.trod enc rJ w 0 sp hd m 3 (([c0,c1,c2,c3].drop 2).take (Tryz.prog.cellsOf 3))=some x2:=hf 2 _ rfl;have h3:DataW.trod enc rJ w 0 sp hd m 3 (([c0,c1,c2,c3].drop 3).take (Tryz.prog.cellsOf 3))=some x3:=hf 3 _ rfl;clear hf;rw[F3]at h0 h1 h2 h3;obtain⟨n0,e0, -,k0⟩:=DataW.trod_int LI h0;obtain⟨n1,e1, -,k1⟩:=DataW.trod_int LI h1;obtain⟨n2,e2, -,k2⟩:=DataW.trod_int LI h2;obtain⟨n3,e3, -,k3⟩:=DataW.trod_int LI h3;simp only[List.drop_zero,IR,List.take_succ_cons,List.take_zero,List.cons.injEq,and_true]at e0 e1 e2 e3;subst e0 e1 e2 e3;exact⟨⟨n0,n1,n2,n3⟩,rfl,⟨xB k0,xB k1,xB k2,xB k3⟩⟩
theorem JK (l:List R.Raw):(yx l).length=4*l.length:=by
 induction l with
 |nil=>rfl
 |cons o l ih=>
  show(qt o++yx l).length=_;rw[mB,ih];simp[qt];omega
theorem Ga (l:List R.Raw)(i j:Nat)(h:i<l.length)(hj:j<4):(yx l)[i*4+j]? =(qt (l[i]'h))[j]? :=by
 obtain⟨h0,h1,h2,h3⟩:=k_ l i h;rcases(by omega:j=0∨j=1∨j=2∨j=3)with rfl|rfl|rfl|rfl
 ·exact h0
 ·exact h1
 ·exact h2
 ·exact h3
theorem fs {w:World}{base:Nat}{v:Value}{d:DataW H}{ps:List MemPlace}(hv:Value.okWide rJ w .any base 25 v)(h:DataW.Trod enc rJ w 0 (fun _=>true) true 25 v d ps):
  ∃l:List R.Raw,(∀o∈l,okR o)∧Rd w (fun _=>False) v l.length (yx l):=by
 obtain⟨a4,h⟩:=h;obtain⟨a,len,cap,rfl⟩:=okWide_slice LJ hv;clear hv;rcases Deep.open_slice LJ h with⟨h1,h2⟩|⟨a',a2,a1,m,n,D,Pl,h1, -,hl,hc,hm,hx,he⟩
 ·obtain⟨rfl,rfl,rfl⟩:a=none∧len=0∧cap=0:=by simpa[Value.cells]using h1
  exact⟨[],by simp,none,0,rfl,j0a _,sQ _,fun h=>absurd h (Nat.lt_irrefl _)⟩
 ·obtain⟨rfl,rfl,rfl⟩:a=some a' ∧len=a2 ∧cap=a1 :=by simpa[Value.cells]using h1
  obtain rfl:m=cap:=by simpa using hm
  clear hx h h1 hm;rw[uy]at he;have a6:Inhabited R.Raw:=⟨⟨0,0,0,0⟩⟩
  obtain⟨f,hf⟩:=Deep.choose_lt (α:=R.Raw) (n:=m) (p:=fun i o=>w.cells? 0 (a'.add (i*4)) 4=some (qt o)∧okR o) (fun i hi=>by
   obtain⟨cs,h1,h2⟩:=he i hi;obtain⟨o,rfl,h3⟩:=FZ h2;exact⟨o,h1,h3⟩)
  refine⟨(lQ len).map f,fun o ho=> ?_,some a',m,by simp,by simpa using hl,hc,fun h0=> ?_⟩
  ·obtain⟨i,hi,rfl⟩:=pH.1 ho
   exact(hf i (j0b (List.mem_range.1 hi) hl)).2
  ·have a5 :0<len:=by simpa using h0
   have a0:∀i,i<len→∀j,j<4→w.cell? ((a'.add (i*4)).add j)=(qt (f i))[j]? :=fun i hi=>(World.cells?_some (hf i (j0b hi hl)).1).2.2
   obtain⟨b,off,a3⟩:=a';have g0:=a0 0 a5 0 (by omega);have g1:(qt (f 0))[0]? =some (.int .i64 (f 0).kind):=rfl;rw[g1]at g0;obtain rfl:a3=none:=by simpa[Addr.add]using World.cell?_spot g0
   refine⟨b,off,rfl,?_,id,fun j u hu=> ?_⟩
   ·exact JL g0
   ·have hj:j<4*len:=by
     have:=(List.getElem?_eq_some_iff.1 hu).1;rw[JK,List.length_map,List.length_range]at this;exact this
    have h1:=a0 (j/4) (by omega) (j % 4) (by omega);rw[Deep.add_add,show j/4*4+j % 4=j from by omega]at h1;rw[add_plain]at h1;rw[h1,←hu];have h2:=Ga ((lQ len).map f) (j/4) (j % 4) (by simp;omega) (by omega);rw[show j/4*4+j % 4=j from by omega]at h2;rw[h2];simp
end
theorem JM {w w' :World}(h:zf w w'):bz w.heap.size w w' :=⟨h.os,h.output,h.size,fun b hb=>h.block b hb⟩
theorem fF:laidOutB rJ=true:=by kernel_rfl
theorem JN:Tryz.prog.readableRec 25=true:=by kernel_rfl
theorem bu:25<Tryz.prog.types.size:=of_decide_eq_true (by kernel_rfl)
theorem Us (c:UInt8)(r:List UInt8):∀u:List UInt8,(∀z∈u,z≠c)→wW (u++c::r) c=(u.length:Int)
 |[],_=>by simp[wW]
 |x::u,h=>by
  have h1:(x==c)=false:=by rw[beq_eq_false_iff_ne];exact h x (by simp)
  have h2:=Us c r u fun z hz=>h z (by simp[hz])
  rw[lN,wW,h1,h2];have h3:((u.length:Int)== -1)=false:=by rw[beq_eq_false_iff_ne];omega
  simp[h3]
theorem O4 (c:UInt8):∀u:List UInt8,(∀z∈u,z≠c)→wW u c= -1
 |[],_=>rfl
 |x::u,h=>by
  have h1:(x==c)=false:=by rw[beq_eq_false_iff_ne];exact h x (by simp)
  rw[wW,h1,O4 c u fun z hz=>h z (by simp[hz])];simp
theorem J9 (u r:List UInt8):(rS (u++r).toArray).extract 0 u.length=⟨u.toArray⟩:=by
 apply LK;simp[LL]
theorem QG (u r:List UInt8)(m:Nat)(hm:m=(u++r).length):(rS (u++r).toArray).extract u.length m=⟨r.toArray⟩:=by
 subst hm;apply LK;simp[LL]
def UK (Bx:Nat)(w:World):Nat:=match w.cell? ⟨Bx,0,none⟩with|some (.string b)=>b.size|_=>0
theorem QJ {Bx:Nat}{w:World}{b:ByteArray}(h:w.cell? ⟨Bx,0,none⟩=some (.string b)):UK Bx w=b.size:=by
 unfold UK;rw[h]
def qV (L:List (List UInt8))(k:Nat):Array Value:= #[.string ⟨(L[k]?.getD []).toArray⟩]
theorem gQ {L:List (List UInt8)}(hL:∀x∈L,∃u,x=u++ [10]∧∀z∈u,z≠10)(e6:L.flatten.length≤1000000)(Bx:Nat)(w0:World)(hc:w0.cell? ⟨Bx,0,none⟩=some (.string ⟨L.flatten.toArray⟩))(hf:w0.frozen? ⟨Bx,0,none⟩=false)(n:Nat)(hn:1≤n):
  BN Fence.wide n rJ 237 #[.pointer (some ⟨Bx,0,none⟩)] L.length (qV L) (fun b=>b=Bx) Bx w0:=by
 intro l J b4 b5 hY W h0 hX;have a6:=z6 ((hX.cell (b:=Bx) rfl 0).trans hc);have a8:=z6 ((hX.frozen (b:=Bx) rfl 0).trans hf);have b2:=z6 h0;have d4:=z6 b4;have d5:=z6 b5;have HY:=z6 hY;have HL:=z6 hL;clear hX hc hf h0 b4 b5 hY hL;refine callsIn_of_wp Tryz.func237 rfl trivial ?_ rfl;simp only[Tryz.ntmps237,sE,mC,mS,sF,sG,sH,sI,sJ,sL,mJ,lN];gi_wp2
 gi_loopw [3] (fun _ wr=>∃k:Nat,k≤L.length∧J k wr∧wr.cell? ⟨Bx,0,none⟩=some (.string ⟨(L.drop k).flatten.toArray⟩)∧wr.frozen? ⟨Bx,0,none⟩=false) (fun _ wr=>UK Bx wr)
 case atStart=>exact⟨0,sQ _,b2.out,a6.out,a8.out⟩
 case round=>
  obtain⟨k,hk,hJ,a0,b8⟩:=hrel;have HJ:=z6 hJ;clear hJ b2 a6 a8;by_cases a2:k<L.length
  ·obtain⟨u,hu,c6⟩:=HL.out _ (j0c a2)
   have c7:qV L k= #[.string ⟨(u++ [10]).toArray⟩]:=by
    unfold qV;rw[j0d a2,pJ,hu]
   have a4:(L.drop k).flatten.length≤L.flatten.length:=by
    conv=>rhs;rw[←List.take_append_drop k L,List.flatten_append,mB]
    omega
   obtain⟨rest,a1⟩:∃rest,rest=(L.drop (k+1)).flatten:=⟨_,rfl⟩
   have he:(L.drop k).flatten=u++10::rest:=by
    rw[List.drop_eq_getElem_cons a2,List.flatten_cons,hu,a1];simp
   rw[he]at a0 a4;have a9:Hid (∀W:World,Calls rJ 238 #[.string ⟨(u++10::rest).toArray⟩,.int .u8 10] W fun e w' =>e= .returned (.int .i64 (u.length:Int))∧w' =W):=fun W=>by
    have:=Tryz.strings_IndexByte ⟨(u++10::rest).toArray⟩ 10 W;rw[show wW (rS (u++10::rest).toArray).data.toList ((10:Int).toNat.toUInt8)=(u.length:Int)from Us 10 rest u c6]at this;exact this
   have d7:=z6 a1;have d6:=z6 c7;have d9:(u++10::rest).length=u.length+1+rest.length:=by simp;omega
   have e1:(rS (u++10::rest).toArray).extract 0 (u.length+1)=⟨(u++ [10]).toArray⟩:=by
    have:=J9 (u++ [10]) rest;simpa using this
   have e2:(rS (u++10::rest).toArray).extract (u.length+1) (u.length+1+rest.length)=⟨rest.toArray⟩:=by
    have:=QG (u++ [10]) rest (u.length+1+rest.length) (by simp;omega);simpa using this
   have a5:(rS (u++10::rest).toArray).size=u.length+1+rest.length:=by simp[aF];omega
   clear hu c7 a1 he c6;generalize(rS (u++10::rest).toArray)=tx at*;have e3:(0:Int)<(tx.size:Int):=by omega
   gi_wp2_with (refine⟨trivial,?_⟩;gi_at_call 238;refine(callsIn_wide.2 (a9.out _)).mono ?_;rintro e w' ⟨rfl,hw⟩;replace hw:=hw.symm;subst hw)
   refine wpIn_wide.2 ?_;have b1:IntKind.i64.wrap ((u.length:Int)+1)=((u.length+1:Nat):Int):=by rw[IntKind.wrap_i64];push_cast;omega
   have b6:((wr.setCell ⟨Bx,0,none⟩ (.string ⟨rest.toArray⟩)).drew).cell? ⟨Bx,0,none⟩=some (.string ⟨rest.toArray⟩):=LM _ _ _ (by rw[a0];rfl);have b7:((wr.setCell ⟨Bx,0,none⟩ (.string ⟨rest.toArray⟩)).drew).frozen? ⟨Bx,0,none⟩=false:=by
    show(wr.setCell ⟨Bx,0,none⟩ (.string ⟨rest.toArray⟩)).frozen? ⟨Bx,0,none⟩=false;rw[rW];exact b8
   have d3:Hid (J k ((wr.setCell ⟨Bx,0,none⟩ (.string ⟨rest.toArray⟩)).drew)):=d5.out _ _ 1 (d4.out _ _ (.string ⟨rest.toArray⟩) HJ.out);have a7:=z6 b6;have c8:=z6 b7;have HM:=z6 (QJ a0);clear b6 b7;go_region_with (fail)
   all_goals
    clear a0 b8 HJ a9;generalize(wr.setCell ⟨Bx,0,none⟩ (.string ⟨rest.toArray⟩)).drew=X at*;obtain⟨fn,tmps,assign,body,hy,hR⟩:=HY.out k X a2 d3.out;rw[d6.out]at hy;have HR:=z6 hR;clear hR;gi_wp2
    refine HR.out.mono ?_;rintro e W' ⟨rfl,b3,b9⟩;have c9 :=z6 b3;have a3 :=z6 b9;clear b3 b9 HR hy;gi_wp2
    go_roundw
    case rel=>exact⟨k+1,by omega,c9.out,by rw[←d7.out];exact(a3.out.cell rfl 0).trans a7.out,(a3.out.frozen rfl 0).trans c8.out⟩
    case measure=>
     rw[HM.out,QJ ((a3.out.cell rfl 0).trans a7.out),a5];simp[aF]
  ·have d8:k=L.length:=by omega
   subst d8;rw[List.drop_length]at a0;have a0:wr.cell? ⟨Bx,0,none⟩=some (.string ⟨#[]⟩):=a0;gi_wp2
   go_end0
   exact⟨⟨_,rfl⟩,HJ.out⟩
theorem gp {L:List (List UInt8)}(hL:∀x∈L,∀z∈x,z≠59)(b7:0<L.length)(f3:(R.joinI L).length≤1000000)(Bs Bp Bv:Nat)(e6:Bp≠Bs)(e7:Bv≠Bs)(w0:World)
  (hc:w0.cell? ⟨Bs,0,none⟩=some (.string ⟨(R.joinI L).toArray⟩))(hf:w0.frozen? ⟨Bs,0,none⟩=false)(a7:w0.cell? ⟨Bp,0,none⟩=some (.string ⟨#[59]⟩))(a8:w0.cell? ⟨Bv,0,none⟩=some (.int .i64 0))(n:Nat)(hn:1≤n):
  BN Fence.wide n rJ 301 #[.pointer (some ⟨Bp,0,none⟩),.pointer (some ⟨Bs,0,none⟩),.pointer (some ⟨Bv,0,none⟩)] L.length (qV L) (fun b=>b=Bs∨b=Bp∨b=Bv) Bs w0:=by
 intro l J c9 d8 hY W h0 hX;have b9:=z6 ((hX.cell (b:=Bs) (.inl rfl) 0).trans hc);have c6:=z6 ((hX.frozen (b:=Bs) (.inl rfl) 0).trans hf);have b5:=z6 ((hX.cell (b:=Bp) (.inr (.inl rfl)) 0).trans a7);have c8:=z6 ((hX.cell (b:=Bv) (.inr (.inr rfl)) 0).trans a8);have c7:=z6 h0;have d6:=z6 c9;have HY:=z6 hY;have HL:=z6 hL;clear hX hc hf a7 a8 h0 c9 d8 hY hL;refine callsIn_of_wp LN rfl trivial ?_ rfl;simp only[Tryz.ntmps301,sE,mC,mS,sF,sG,sH,sI,sJ,sL,mJ,lN];have e3:=b5.out;gi_wp2
 clear e3;gi_loopw [7] (fun _ wr=>∃k:Nat,k<L.length∧J k wr∧wr.cell? ⟨Bs,0,none⟩=some (.string ⟨(R.joinI (L.drop k)).toArray⟩)∧wr.frozen? ⟨Bs,0,none⟩=false∧wr.cell? ⟨Bp,0,none⟩=some (.string ⟨#[59]⟩)∧wr.cell? ⟨Bv,0,none⟩=some (.int .i64 0)) (fun _ wr=>UK Bs wr)
 case atStart=>exact⟨0,b7,c7.out,b9.out,c6.out,b5.out,c8.out⟩
 case round=>
  obtain⟨k,a9,hJ,a0,d4,a7,a8⟩:=hrel;have HJ:=z6 hJ;clear hJ c7 b9 c6 b5 c8;have b2:=HL.out _ (j0c a9);have a1:=fM L k a9;have b3:qV L k= #[.string ⟨L[k].toArray⟩]:=by
   unfold qV;rw[j0d a9,pJ]
  have a4:∀(M:List (List UInt8)) (j:Nat),(R.joinI (M.drop j)).length≤(R.joinI M).length:=by
   intro M;induction M with
   |nil=>intro j;simp
   |cons a r ih=>
    intro j
    cases j with
    |zero=>simp
    |succ j=>
     have:=ih j;rw[IR]
     cases r with
     |nil=>simp[R.joinI]
     |cons b r=>rw[R.joinI];simp only[mB,mC];omega
  have b1:=a4 L k;clear a4;generalize L[k]=u at*;by_cases a2:k+1=L.length
  ·rw[if_pos a2,List.append_nil]at a1
   rw[a1]at a0 b1;have b4:Hid (∀W:World,Calls rJ 229 #[.string ⟨u.toArray⟩,.string ⟨#[59]⟩] W fun e w' =>e= .returned (.int .i64 (-1))∧w' =W):=fun W=>by
    have:=LO ⟨u.toArray⟩ 59 W;rw[show wW (rS u.toArray).data.toList 59= -1 from O4 59 u b2]at this;exact this
   have b6:=z6 b3;clear b3 b2;obtain⟨fn,tmps,assign,body,hy,hR⟩:=HY.out k wr a9 HJ.out;rw[b6.out]at hy;have HR:=z6 hR;clear hR;gi_wp2_with (refine⟨trivial,?_⟩;gi_at_call 229;refine(callsIn_wide.2 (b4.out _)).mono ?_;rintro e w' ⟨rfl,hw⟩;replace hw:=hw.symm;subst hw)
   refine HR.out.mono ?_;rintro e W' ⟨rfl,a6,a5⟩;rw[a2]at a6;gi_wp2
   go_end0
   exact⟨⟨_,rfl⟩,a6⟩
  ·rw[if_neg a2]at a1
   obtain⟨rest,a3⟩:∃rest,rest=R.joinI (L.drop (k+1)):=⟨_,rfl⟩
   rw[←a3]at a1;rw[a1]at a0 b1;have b4:Hid (∀W:World,Calls rJ 229 #[.string ⟨(u++59::rest).toArray⟩,.string ⟨#[59]⟩] W fun e w' =>e= .returned (.int .i64 (u.length:Int))∧w' =W):=fun W=>by
    have:=LO ⟨(u++59::rest).toArray⟩ 59 W;rw[show wW (rS (u++59::rest).toArray).data.toList 59=(u.length:Int)from Us 59 rest u b2]at this;exact this
   have d7:=z6 a3;have b6:=z6 b3;have e1:(u++59::rest).length=u.length+1+rest.length:=by simp;omega
   have e9:(rS (u++59::rest).toArray).extract 0 u.length=⟨u.toArray⟩:=J9 u (59::rest);have f0:(rS (u++59::rest).toArray).extract (u.length+1) (u.length+1+rest.length)=⟨rest.toArray⟩:=by
    have:=QG (u++ [59]) rest (u.length+1+rest.length) (by simp;omega);simpa using this
   have b8:(rS (u++59::rest).toArray).size=u.length+1+rest.length:=by simp[aF];omega
   clear b3 a3 a1 b2;generalize(rS (u++59::rest).toArray)=tx at*;have HM:=z6 (QJ a0);obtain⟨fn,tmps,assign,body,hy,hR⟩:=HY.out k wr a9 HJ.out;rw[b6.out]at hy;have HR:=z6 hR;clear hR;gi_wp2_with (refine⟨trivial,?_⟩;gi_at_call 229;refine(callsIn_wide.2 (b4.out _)).mono ?_;rintro e w' ⟨rfl,hw⟩;replace hw:=hw.symm;subst hw)
   refine HR.out.mono ?_;rintro e W' ⟨rfl,a6,a5⟩;have d5:=z6 (d6.out _ _ (.string ⟨rest.toArray⟩) a6);have d3 :=(a5.cell (b:=Bs) (.inl rfl) 0).trans a0;have d9 :=(a5.frozen (b:=Bs) (.inl rfl) 0).trans d4;have e2 :=(a5.cell (b:=Bp) (.inr (.inl rfl)) 0).trans a7;have e8 :=(a5.cell (b:=Bv) (.inr (.inr rfl)) 0).trans a8;clear a0 d4 a7 a8 HR hy a6 a5 HJ;gi_wp2
   go_roundw
   case rel=>
    refine⟨k+1,by omega,d5.out,?_,by rw[rW];exact d9,?_,?_⟩
    ·rw[←d7.out]
     exact LM _ _ _ (by rw[d3];rfl)
    ·rw[EV _ _ _ _ (by intro e;cases e;exact e6 rfl)];exact e2
    ·rw[EV _ _ _ _ (by intro e;cases e;exact e7 rfl)];exact e8
   case measure=>
    rw[HM.out,QJ (LM _ _ (.string ⟨rest.toArray⟩) (by rw[d3];rfl)),b8];simp[aF]
section
attribute [local go_sem] Oper.semAt_some
structure Bi (w:World)(M:Nat→Prop)(Bt:Nat)(cs:List (Nat×Value))(tv:Value)(t:List R.Leaf)(W:World):Prop where
 box:∀p∈(Bt,tv)::cs,p.1<W.heap.size∧W.cell? ⟨p.1,0,none⟩=some p.2∧W.frozen? ⟨p.1,0,none⟩=false
 pt:PT W M tv t
 below:Below w.heap.size w W
section
variable {w W W' :World}{M:Nat→Prop}{Bt:Nat}{cs:List (Nat×Value)}{tv:Value}{t:List R.Leaf}
theorem Bi.step (h:Bi w M Bt cs tv t W){Z:Nat→Prop}(hk:ze Z W W')(hZ:∀b,Z b→M b∧w.heap.size≤b∧∀p∈(Bt,tv)::cs,p.1≠b):Bi w M Bt cs tv t W' :=by
 refine⟨fun p hp=> ?_,h.pt.step hk (fun b hb=>(hZ b hb).1) (fun b hb=> .inl hb),?_⟩
 ·obtain⟨h1,h2,h3⟩:=h.box p hp
  have hn:¬Z p.1:=fun e=>(hZ _ e).2.2 p hp rfl
  exact⟨j0b h1 hk.size,by rw[hk.cell (p:=⟨p.1,0,none⟩) h1 hn];exact h2,by rw[hk.frozen (p:=⟨p.1,0,none⟩) h1 hn];exact h3⟩
 ·exact⟨hk.os.trans h.below.os,hk.tape.trans h.below.tape,hk.output.trans h.below.output,j0f h.below.size hk.size,fun k a0 =>by
   rw[hk.block k (j0b a0 h.below.size) (fun e=>by have:=(hZ k e).2.1;omega)];exact h.below.block k a0⟩
theorem Q5 (W:World)(l:Nat)(o:Obj):ze (fun b=>b=l) W (W.putObj l o):=⟨rfl,rfl,rfl,by simp,fun k _ hn=>wS hn⟩
theorem VN (W:World)(l:Nat)(v:Value):ze (fun b=>b=l) W (W.setCell ⟨l,0,none⟩ v):=ze.setCell (M:=fun b=>b=l) (p:=⟨l,0,none⟩) (ze.refl _ W) (.inl rfl) v
theorem jR (W:World)(o:Obj):ze (fun _=>False) W (W.alloc o):=⟨rfl,rfl,rfl,by simp,fun k hk _=>Below.heap_alloc W o k hk⟩
theorem Bi.each {tr:Nat→List R.Leaf}{V:World}{Bx:Nat}(h0:∃tv,Bi w M Bt cs tv (tr 0) V)
  (hM:∀b,(b=V.heap.size∨b=V.heap.size+1∨b=Bx)→M b∧w.heap.size≤b)(a1:∀b,(b=Bt∨b∈cs.map (·.1))→b<V.heap.size∧b≠Bx):bO V Bx (fun j W=>∃tv,Bi w M Bt cs tv (tr j) W):=by
 have a0:∀(tv:Value),∀p∈(Bt,tv)::cs,p.1<V.heap.size∧p.1≠Bx:=fun tv p hp=>by
  rcases iC.1 hp with rfl|hp
  ·exact a1 _ (.inl rfl)
  ·exact a1 _ (.inr (pH.2 ⟨p,hp,rfl⟩))
 refine⟨fun j W l o ⟨tv,h⟩ hl=>⟨tv,h.step (Q5 W l o) ?_⟩,fun o o' => ?_,fun j W v ⟨tv,h⟩=>⟨tv,h.step (VN W Bx v) ?_⟩,fun j W q ⟨tv,h⟩=>⟨tv,h.step ((ze.refl (fun _=>False) W).drewN q) fun b e=>e.elim⟩⟩
 ·rintro b rfl
  have:=hM b (by rcases hl with e|e;exact .inl e;exact .inr (.inl e));exact⟨this.1,this.2,fun p hp e=>by have:=(a0 tv p hp).1;omega⟩
 ·obtain⟨tv,h⟩:=h0
  exact⟨tv,(h.step (jR V o) fun b e=>e.elim).step (jR _ o') fun b e=>e.elim⟩
 ·rintro b rfl
  have:=hM b (.inr (.inr rfl));exact⟨this.1,this.2,fun p hp=>(a0 tv p hp).2⟩
theorem Bi.set (h:Bi w M Bt cs tv t W){w1:World}(hb:Below W.heap.size W w1){a1 :Value}{t' :List R.Leaf}(hp:PT w1 M a1 t')(a2:M Bt∧w.heap.size≤Bt)(a3:∀p∈cs,p.1≠Bt):Bi w M Bt cs a1 t' (w1.setCell ⟨Bt,0,none⟩ a1):=by
 have h1:Bi w M Bt cs tv t w1:=h.step (ze.of_below (M:=fun _=>False) hb) fun b e=>e.elim
 obtain⟨g1,g2,g3⟩:=h1.box (Bt,tv) (by simp);have hk:=VN w1 Bt a1;refine⟨fun p a0 => ?_,hp.step hk (fun b e=>by rw[e];exact a2.1) (fun b hb=> .inl hb),?_⟩
 ·rcases iC.1 a0 with rfl|a0
  ·exact⟨j0b g1 hk.size,LM _ _ _ (by rw[g2];rfl),by rw[rW];exact g3⟩
  ·obtain⟨f1,f2,f3⟩:=h1.box p (List.mem_cons_of_mem _ a0)
   have hn:¬p.1=Bt:=a3 p a0;exact⟨j0b f1 hk.size,by rw[hk.cell (p:=⟨p.1,0,none⟩) f1 hn];exact f2,by rw[hk.frozen (p:=⟨p.1,0,none⟩) f1 hn];exact f3⟩
 ·exact h1.below.setCell (p:=⟨Bt,0,none⟩) a2.2 _
theorem VP {n:Nat}{W W' :World}(h1:W.heap.size≤W'.heap.size)(h2:∀k,n≤k→k<W.heap.size→W'.heap[k]? =W.heap[k]?):KeepsFrom n W W' :=
 ⟨h1,fun k o hk ho _=>by rw[h2 k hk (Array.getElem?_eq_some_iff.1 ho).1];exact ho⟩
theorem qh {w1:World}(hb:Below W.heap.size W w1)(Bt:Nat)(v:Value)(k:Nat)(hk:k<W.heap.size)(hn:k≠Bt):(w1.setCell ⟨Bt,0,none⟩ v).heap[k]? =W.heap[k]? :=(Below.heap_setCell w1 ⟨Bt,0,none⟩ v k hn).trans (hb.block k hk)
theorem QX (w1:World)(a:Addr)(v:Value):(w1.setCell a v).heap.size=w1.heap.size:=by
 show(w1.heap.modify _ _).size=_;rw[Array.size_modify]
theorem j7 (W:World){b b' :Nat}(v:Value)(h:b≠b'):(W.setCell ⟨b',0,none⟩ v).cell? ⟨b,0,none⟩=W.cell? ⟨b,0,none⟩:=pU (a:=⟨b,0,none⟩) (Below.heap_setCell W ⟨b',0,none⟩ v b h)
theorem kf (W:World){b l:Nat}(o:Obj)(h:b≠l):(W.putObj l o).cell? ⟨b,0,none⟩=W.cell? ⟨b,0,none⟩:=pU (a:=⟨b,0,none⟩) (wS h)
theorem ZS {V:World}{b:Nat}{v:Value}{t:TypeId}(h:V.heap[b]? =some (.cells #[v] t)):V.cell? ⟨b,0,none⟩=some v∧V.frozen? ⟨b,0,none⟩=false:=by
 constructor
 ·simp[World.cell?,h]
 ·simp[World.frozen?,h]
end
theorem BG (w:World)(o0 o1 o2 o3 o4 o5 o6:Obj):(((((((w.alloc o0).alloc o1).alloc o2).alloc o3).alloc o4).alloc o5).alloc o6).heap=w.heap++ #[o0,o1,o2,o3,o4,o5,o6]:=by
 simp only[World.alloc];apply Array.ext';simp only[Array.toList_append,Array.toList_push,List.append_assoc,lN,mJ]
theorem gv (l:List UInt8)(w:World):
  Calls rJ 274 #[.string ⟨l.toArray⟩,.string ⟨#[59]⟩] w fun e w' =>e= .returned (.func (.func 301) #[] #[.pointer (some ⟨w.heap.size+1,0,none⟩),.pointer (some ⟨w.heap.size,0,none⟩),.pointer (some ⟨w.heap.size+2,0,none⟩)])∧
   w' =((w.alloc (.cells #[.string ⟨l.toArray⟩] 9)).alloc (.cells #[.string ⟨#[59]⟩] 9)).alloc (.cells #[.int .i64 0] 3):=by
 go_enter Tryz.func274,Tryz.ntmps274;have h:∀W:World,Calls rJ 294 #[.string ⟨l.toArray⟩,.string ⟨#[59]⟩,.int .i64 0] W fun e w' =>e= .returned (.func (.func 301) #[] #[.pointer (some ⟨W.heap.size+1,0,none⟩),.pointer (some ⟨W.heap.size,0,none⟩),.pointer (some ⟨W.heap.size+2,0,none⟩)])∧
   w' =((W.alloc (.cells #[.string ⟨l.toArray⟩] 9)).alloc (.cells #[.string ⟨#[59]⟩] 9)).alloc (.cells #[.int .i64 0] 3):=by
  intro W;go_enter Tryz.func294,Tryz.ntmps294;go_wp2;go_ret;exact⟨by simp,rfl⟩
 have H:=z6 h;clear h;go_wp2_with fail
 refine(H.out _).mono ?_;rintro e W ⟨rfl,rfl⟩;go_wp2;go_ret;exact⟨rfl,rfl⟩
theorem fT {T:List R.Leaf}{x:R.Leaf}(hN:Xm T x)(hk:x.kind=42)(v:Value)(w:World)(M:Nat→Prop)(hM:∀b,M b→b<w.heap.size)(h:PT w M v T):
  Calls rJ 242 #[v,.string ⟨x.path.toArray⟩,.string ⟨(R.joinI x.items).toArray⟩] w fun e w' =>∃va vn vc,e= .returned (.tuple #[.slice va vn vc,.int .i64 0])∧PT w' M (.slice va vn vc) (T++ [x])∧Below w.heap.size w w' :=by
 refine(callsIn_wide (n:=3)).1 ?_;refine callsIn_of_wp_marks Tryz.func242 rfl trivial ?_ rfl;simp only[Tryz.ntmps242,sE,mC,mS,sF,sG,sH,sI,sJ,sL,mJ,lN];have b4:=z6 (gv (R.joinI x.items));obtain⟨va,vc,rfl⟩:=yU h;gi_wp2_with (refine⟨trivial,?_⟩;gi_at_call 274;refine(callsIn_wide.2 (b4.out _)).mono ?_;rintro e w' ⟨rfl,rfl⟩)
 have hR:∃V,(((((((w.alloc (.cells #[.slice va T.length vc] 93)).alloc (.cells #[.string ⟨x.path.toArray⟩] 9)).alloc (.cells #[.slice none 0 0] 93)).alloc (.cells #[.int .i64 0] 31)).alloc (.cells #[.string ⟨(R.joinI x.items).toArray⟩] 9)).alloc (.cells #[.string ⟨#[59]⟩] 9)).alloc (.cells #[.int .i64 0] 3))=V:=⟨_,rfl⟩
 obtain⟨V,hV⟩:=hR;rw[hV];have hh:V.heap=w.heap++ #[.cells #[.slice va T.length vc] 93,.cells #[.string ⟨x.path.toArray⟩] 9,.cells #[.slice none 0 0] 93,.cells #[.int .i64 0] 31,.cells #[.string ⟨(R.joinI x.items).toArray⟩] 9,.cells #[.string ⟨#[59]⟩] 9,.cells #[.int .i64 0] 3]:=by
  rw[←hV];exact BG w _ _ _ _ _ _ _
 have b6:Below w.heap.size w V:=by
  rw[←hV];exact((((((((j0g _ w).alloc (j0a _) _).alloc (by simp) _).alloc (by simp;omega) _).alloc (by simp;omega) _).alloc (by simp;omega) _).alloc (by simp;omega) _).alloc (by simp;omega) _)
 have b8:V.heap.size=w.heap.size+7:=by rw[hh];simp
 have c0:=ZS (V:=V) (b:=w.heap.size) (v:= .slice va T.length vc) (t:=93) (by rw[hh];simp);have c1:=ZS (V:=V) (b:=w.heap.size+1) (v:= .string ⟨x.path.toArray⟩) (t:=9) (by rw[hh];simp);have c2:=ZS (V:=V) (b:=w.heap.size+2) (v:= .slice none 0 0) (t:=93) (by rw[hh];simp);have c3:=ZS (V:=V) (b:=w.heap.size+3) (v:= .int .i64 0) (t:=31) (by rw[hh];simp);have c4:=ZS (V:=V) (b:=w.heap.size+4) (v:= .string ⟨(R.joinI x.items).toArray⟩) (t:=9) (by rw[hh];simp);have c5:=ZS (V:=V) (b:=w.heap.size+5) (v:= .string ⟨#[59]⟩) (t:=9) (by rw[hh];simp);have c6:=ZS (V:=V) (b:=w.heap.size+6) (v:= .int .i64 0) (t:=3) (by rw[hh];simp);clear hV hh b4;obtain⟨M',a5⟩:∃M' :Nat→Prop,M' =fun b=>M b∨(w.heap.size≤b∧b<w.heap.size+9):=⟨_,rfl⟩
 have d6:∀b,M' b→M b∨w.heap.size≤b:=fun b hb=>by rw[a5]at hb;exact hb.imp id (·.1)
 have a6:∀b,w.heap.size≤b→b<w.heap.size+9→M' b:=fun b h1 h2=>by rw[a5];exact .inr ⟨h1,h2⟩
 have d7:∀b,M' b→b<w.heap.size+9:=fun b hb=>by
  rw[a5]at hb;rcases hb with hb|hb
  ·have:=hM b hb;omega
  ·exact hb.2
 have d8:∀b,M b→M' b:=fun b hb=>by rw[a5];exact .inl hb
 clear a5;have d5:∀y∈x.items,∀z∈y,z≠59:=fun y hy z hz=>(Xe _ (hN.leaf.item y hy).1 z hz).2
 have b1:0<x.items.length:=by
  rcases hN.leaf.kind with⟨e,_⟩|⟨e,_⟩|⟨_,_,_,h3⟩
  ·rw[hk]at e;cases e
  ·rw[hk]at e;cases e
  ·exact List.length_pos_iff.2 h3
 have d9:(R.joinI x.items).length≤1000000:=by
  have h1:=R.joinI_length x.items (fun i hi=>by have:=Zr _ (hN.leaf.item i hi).1;omega);have h2:=hN.leaf.many;omega
 have a2:=gp (L:=x.items) d5 b1 d9 (w.heap.size+4) (w.heap.size+5) (w.heap.size+6) (by omega) (by omega) V c4.1 c4.2 c5.1 c6.1 2 (by omega);have a7:Bi w M' w.heap.size [(w.heap.size+1,.string ⟨x.path.toArray⟩),(w.heap.size+2,.slice none 0 0),(w.heap.size+3,.int .i64 0)] (.slice va T.length vc) (xl T x 0) V:=by
  refine⟨fun p hp=> ?_,?_,b6⟩
  ·simp only[iC,iI,or_false]at hp
   rcases hp with rfl|rfl|rfl|rfl
   ·exact⟨by omega,c0⟩
   ·exact⟨by show _+1<_;omega,c1⟩
   ·exact⟨by show _+2<_;omega,c2⟩
   ·exact⟨by show _+3<_;omega,c3⟩
  ·exact h.step (ze.of_below (M:=fun _=>False) b6) (fun _ e=>e.elim) d6
 refine JP rfl (by omega) (gf:=301) (lb:= #[.pointer (some ⟨w.heap.size+5,0,none⟩),.pointer (some ⟨w.heap.size+4,0,none⟩),.pointer (some ⟨w.heap.size+6,0,none⟩)]) rfl trivial (enters_of LN (by kernel_rfl) rfl) a2 (by omega) (fun b hb=>by rcases hb with e|e|e<;>omega) (fun _=>rfl)
  (fun j W=>∃tv,Bi w M' w.heap.size [(w.heap.size+1,.string ⟨x.path.toArray⟩),(w.heap.size+2,.slice none 0 0),(w.heap.size+3,.int .i64 0)] tv (xl T x j) W)
  (Bi.each ⟨_,a7⟩ (fun b hb=>⟨a6 b (by omega) (by omega),by omega⟩) (fun b hb=>by simp only[List.map_cons,List.map_nil,iC,iI,or_false]at hb;omega))
  (fun j=>{tmps:= #[.slice va T.length vc,.string ⟨x.path.toArray⟩,.string ⟨(R.joinI x.items).toArray⟩,.pointer (some ⟨w.heap.size,0,none⟩),.pointer (some ⟨w.heap.size+1,0,none⟩),undef,.pointer (some ⟨w.heap.size+2,0,none⟩),.pointer (some ⟨w.heap.size+3,0,none⟩),.string ⟨(x.items[j]?.getD []).toArray⟩,undef,.string ⟨(R.joinI x.items).toArray⟩,.func (.func 301) #[] #[.pointer (some ⟨w.heap.size+5,0,none⟩),.pointer (some ⟨w.heap.size+4,0,none⟩),.pointer (some ⟨w.heap.size+6,0,none⟩)],.string ⟨(x.items[j]?.getD []).toArray⟩,undef,undef,undef,undef,undef,undef,undef,undef,undef,undef,undef],defers:=[]}) ?assign ?body ?done
 case assign=>
  intro l k W K hK;simp only[qV];gi_wp2
  exact hK
 case body=>
  rintro l k W a8 e7 ⟨tv,a0⟩;have e0:=(a0.box (w.heap.size,tv) (by simp)).2.1;have c8:=(a0.box (w.heap.size,tv) (by simp)).2.2;have e1:=(a0.box (w.heap.size+1,.string ⟨x.path.toArray⟩) (by simp)).2.1;rw[b8]at e7;obtain⟨q1,q2⟩:=zFS hN k a8;have b2:=bG tv (xl T x k) x.path x.items[k] W M' (fun b hb=>by have:=d7 b hb;omega) a0.pt (OR hN k (by omega)) hN.leaf.path (by have:=Zr _ (hN.leaf.item _ (j0c a8)).1;unfold maxLen;omega);rw[q1]at b2;obtain⟨ta,tc,b3⟩:=yU a0.pt;subst b3;have b9:=z6 b2;have a3:=z6 a0;have c7:=z6 q2;have b7:x.items[k]?.getD []=x.items[k]:=by rw[j0d a8];rfl
  rw[b7];clear b2 a0 q1 q2 a7 a2 c0 c1 c2 c3 c4 c5 c6 h b7;generalize x.items[k]=it at*;gi_wp2
  refine⟨trivial,?_⟩;gi_at_call 61
  refine(CallsIn.inRound l (callsIn_wide.2 b9.out)).mono ?_;rintro e w' ⟨ra,rn,rc,rfl,e6,a4⟩;have f0:w'.cell? ⟨w.heap.size,0,none⟩=some (.slice ta (xl T x k).length tc):=by
   rw[pU (a:=⟨w.heap.size,0,none⟩) (a4.block _ (by show w.heap.size<_;omega))];exact e0
  have f3:w'.frozen? ⟨w.heap.size,0,none⟩=false:=by
   rw[World.frozen?_of_block (a:=⟨w.heap.size,0,none⟩) (a4.block _ (by show w.heap.size<_;omega))];exact c8
  gi_wp2
  refine⟨⟨_,a3.out.set a4 (by rw[←c7.out];exact e6 trivial) ⟨a6 _ (by omega) (by omega),j0a _⟩ (by simp)⟩,fun b hb=>qh a4 _ _ b (by rcases hb with e|e|e<;>omega) (by rcases hb with e|e|e<;>omega),VP (by rw[QX];exact a4.size) (fun k h1 h2=>qh a4 _ _ k h2 (by omega))⟩
 case done=>
  rintro D W hD ⟨tv,a0⟩ hK;rw[b8]at hD;subst hD;have e0:=(a0.box (w.heap.size,tv) (by simp)).2.1;have e2:=(a0.box (w.heap.size+2,.slice none 0 0) (by simp)).2;have e3:=(a0.box (w.heap.size+3,.int .i64 0) (by simp)).2;have s2:=(a0.box (w.heap.size+2,.slice none 0 0) (by simp)).1;obtain⟨c9,e8⟩:=e2;obtain⟨d3,e9⟩:=e3;rw[F8 hN hk]at a0;obtain⟨ta,tc,b3⟩:=yU a0.pt;subst b3;have a3:=z6 a0;have HK:=z6 hK;clear a0 hK a7 a2 c0 c1 c2 c3 c4 c5 c6 h;gi_wp2
  have a9:(T++ [x]).length=T.length+1:=by simp
  rw[a9]at a3;have a1:∃W2,(W.setCell ⟨w.heap.size+2,0,none⟩ (.slice ta (T.length+1) tc)).setCell ⟨w.heap.size+3,0,none⟩ (.int .i64 0)=W2:=⟨_,rfl⟩
  obtain⟨W2,a1⟩:=a1;have d4:W2.heap[w.heap.size+7]? =some (.deferred (some [])):=by
   rw[←a1];exact((Below.heap_setCell _ ⟨w.heap.size+3,0,none⟩ _ (w.heap.size+7) (by show w.heap.size+7≠w.heap.size+3;omega)).trans (Below.heap_setCell _ ⟨w.heap.size+2,0,none⟩ _ (w.heap.size+7) (by show w.heap.size+7≠w.heap.size+2;omega))).trans HK.out
  have k2:(W2.putObj (w.heap.size+7) (.deferred none)).cell? ⟨w.heap.size+2,0,none⟩=some (.slice ta (T.length+1) tc):=by
   rw[kf _ _ (by omega),←a1,j7 _ _ (by omega)];exact LM _ _ _ (by rw[c9];rfl)
  have k3:(W2.putObj (w.heap.size+7) (.deferred none)).cell? ⟨w.heap.size+3,0,none⟩=some (.int .i64 0):=by
   rw[kf _ _ (by omega),←a1];exact LM _ _ _ (by rw[j7 _ _ (by omega),d3];rfl)
  have b5:Bi w M' w.heap.size [(w.heap.size+1,.string ⟨x.path.toArray⟩)] (.slice ta (T.length+1) tc) (T++ [x]) (W2.putObj (w.heap.size+7) (.deferred none)):=by
   have h1:Bi w M' w.heap.size [(w.heap.size+1,.string ⟨x.path.toArray⟩)] (.slice ta (T.length+1) tc) (T++ [x]) W:=⟨fun p hp=>a3.out.box p (by simp only[iC,iI,or_false]at hp⊢;rcases hp with e|e;exact .inl e;exact .inr (.inl e)),a3.out.pt,a3.out.below⟩
   rw[←a1];refine Bi.step (Z:=fun b=>b=w.heap.size+2∨b=w.heap.size+3) h1 ((((ze.refl _ W).setCell (p:=⟨w.heap.size+2,0,none⟩) (.inl (.inl rfl)) _)).setCell (p:=⟨w.heap.size+3,0,none⟩) (.inl (.inr rfl)) _) ?_|>.step (Q5 _ (w.heap.size+7) _) ?_
   ·rintro b (rfl|rfl)
    ·exact⟨a6 _ (by omega) (by omega),by omega,fun p hp=>by simp only[iC,iI,or_false]at hp;rcases hp with rfl|rfl<;>simp⟩
    ·exact⟨a6 _ (by omega) (by omega),by omega,fun p hp=>by simp only[iC,iI,or_false]at hp;rcases hp with rfl|rfl<;>simp⟩
   ·rintro b rfl
    exact⟨a6 _ (by omega) (by omega),by omega,fun p hp=>by simp only[iC,iI,or_false]at hp;rcases hp with rfl|rfl<;>simp<;>omega⟩
  rw[a1];refine⟨by simp,.inl ⟨_,_,rfl,run_takeDeferred d4,?_⟩⟩;generalize W2.putObj (w.heap.size+7) (.deferred none)=W3 at*;have k2:W3.cell? ⟨w.heap.size+1+1,0,none⟩=some (.slice ta (T.length+1) tc):=k2;have k3:W3.cell? ⟨w.heap.size+1+1+1,0,none⟩=some (.int .i64 0):=k3;refine⟨.tuple #[.slice ta (T.length+1) tc,.int .i64 0],by simp[results,Tryz.results242,go_sem,k2,k3],?_⟩;exact⟨ta,T.length+1,tc,rfl,b5.pt.step (ze.refl (fun _=>False) _) (fun _ e=>e.elim) (fun b hb=> .inl (d8 b hb)),b5.below⟩
end
theorem Ku:∀(l:List UInt8) (a0:Nat),(∀c∈l,48≤c.toNat∧c.toNat≤57)→LP a0 l=some (l.foldl (fun a c=>10*a+(c.toNat-48)) a0)
 |[],a0,_=>rfl
 |c::l,a0,h=>by
  have hc:=h c (by simp);unfold LP Lib.digitVal;rw[if_pos hc];show LP (a0*10+(c.toNat-48)) l=_;rw[Ku l _ fun z hz=>h z (by simp[hz]),List.foldl_cons,Nat.mul_comm]
theorem Jd (u:Nat):LQ (nS u)=some u:=by
 obtain⟨h1,h2,h3⟩:=GK u;unfold LQ;rw[if_neg (by simpa using h3),Ku _ _ h1];exact congrArg some h2
theorem Fa (n:Int):LR (nY n)=some n:=by
 unfold nY;split
 ·rename_i hn
  unfold LR;simp only[beq_self_eq_true,if_true];rw[Jd];show some (-(n.natAbs:Int))=some n;congr 1;omega
 ·rename_i hn
  have hd:=Jd n.toNat;obtain⟨h1,_,h3⟩:=GK n.toNat;match hl:nS n.toNat,h3 with
  |b::r,_=>
   rw[hl]at hd h1;have hb:=h1 b (by simp);have e1:(b==45)=false:=by rw[beq_eq_false_iff_ne];rintro rfl;simp at hb
   have e2:(b==43)=false:=by rw[beq_eq_false_iff_ne];rintro rfl;simp at hb
   unfold LR;simp only[e1,e2,hd,Bool.false_eq_true,if_false];show some ((n.toNat:Nat):Int)=some n;congr 1;omega
def di (w:World)(M:Nat→Prop)(t:List R.Leaf)(e:Ending)(w' :World):Prop:=∃va vn vc,e= .returned (.tuple #[.slice va vn vc,.int .i64 0])∧PT w' M (.slice va vn vc) t∧Below w.heap.size w w'
theorem Bh {T:List R.Leaf}{x:R.Leaf}(hN:Xm T x)(v:Value)(w:World)(M:Nat→Prop)(hM:∀b,M b→b<w.heap.size)(h:PT w M v T)(c:UInt8)(r:List UInt8)(hw:R.written x=c::r):
  Calls rJ 212 #[v,.string ⟨x.path.toArray⟩,.int .u8 (c.toNat:Int),.string ⟨r.toArray⟩] w (di w M (T++ [x])):=by
 obtain⟨va,vc,rfl⟩:=yU h;have b4:=yZ _ hN.leaf.path;unfold R.written at hw;rcases hN.leaf.kinds with hk|hk|hk
 ·rw[if_pos hk]at hw
  obtain⟨rfl,rfl⟩:=List.cons.inj hw;have b3:(nY x.n).length≤11:=by
   have:=hN.leaf.lo;have:=hN.leaf.hi;unfold nY;split
   ·have:=UE 9 x.n.natAbs (by omega)
    simp only[mC];omega
   ·have:=UE 9 x.n.toNat (by omega)
    omega
  have a8:=fun W=>Tryz.strconv_Atoi ⟨(nY x.n).toArray⟩ x.n (by simp[aF];omega) (Fa x.n) W
  have a2:=fun(W:World) (hW:Below w.heap.size w W)=>bH (.slice va T.length vc) T x.path x.n W M (fun b hb=>j0b (hM b hb) hW.size) (h.below hW) hN.ok hN.leaf.path (by have:=hN.leaf.hi;omega) (by have:=hN.leaf.lo;omega)
  rw[hN.add hk]at a2;have a1:=hN.set (z:=x) rfl hN.leaf.nz;have HA:=z6 a8;have HD:=z6 a2;have a4:=z6 a1;clear a8 a2 a1;generalize x.n=xn at*;generalize nY xn=dg at*;go_enter LS,LU;go_wp2_with fail
  refine(HA.out _).mono ?_;rintro e W1 ⟨rfl,⟨tt,b1⟩⟩;have a5:Below w.heap.size w W1:=by rw[b1];exact Lib.bytesWorld_below _ _ _
  have b2:=z6 (HD.out W1 a5);have a7:=z6 a5;clear b1 a5 HD HA;go_wp2_with fail
  refine b2.out.mono ?_;rintro e W2 ⟨ra,rn,rc,rfl,a0,a3⟩;replace a0:=a0 rfl;rw[a4.out]at a0;go_wp2;go_ret2;exact⟨ra,rn,rc,rfl,a0,a7.out.trans (a3.mono a7.out.size)⟩
 ·rw[if_neg (by rw[hk];decide),if_pos hk]at hw
  obtain⟨rfl,rfl⟩:=List.cons.inj hw;have a6:=cJ (.slice va T.length vc) T x.path x.text w M hM h hN.ok hN.leaf.path (by have:=Zr _ hN.leaf.text;unfold maxLen;omega);rw[hN.note hk]at a6;have a1:=hN.set (z:=x) rfl hN.leaf.nz;have HD:=z6 a6;have a4:=z6 a1;clear a6 a1;go_enter LS,LU;go_wp2_with fail
  refine HD.out.mono ?_;rintro e W2 ⟨ra,rn,rc,rfl,a0,a3⟩;replace a0:=a0 rfl;rw[a4.out]at a0;go_wp2;go_ret2;exact⟨ra,rn,rc,rfl,a0,a3⟩
 ·rw[if_neg (by rw[hk];decide),if_neg (by rw[hk];decide)]at hw
  obtain⟨rfl,rfl⟩:=List.cons.inj hw;have a9:=fT hN hk (.slice va T.length vc) w M hM h;have HD:=z6 a9;clear a9;generalize R.joinI x.items=ji at*;go_enter LS,LU;go_wp2_with fail
  refine HD.out.mono ?_;rintro e W2 ⟨ra,rn,rc,rfl,a0,a3⟩;go_wp2;go_ret2;exact⟨ra,rn,rc,rfl,a0,a3⟩
