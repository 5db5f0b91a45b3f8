import Derived.Test.YtolgebdmffcemaaGreatDoorQ22
import Derived.Test.YtolgebdmffcemaaGreatDoorQ15
import Derived.Shelf.RegionOpen
import Derived.OwnWalkIn
import Derived.TacticsInMore
import Derived.LoopNIn
import Derived.LoopIn
import Derived.Lib.AtoiErrMem
import Derived.Lib.IndexMore
import Derived.BigRegionIn
import Derived.Conc.WalkWords
set_option linter.all false
set_option maxHeartbeats 20000000
set_option maxRecDepth 1000000
open Go renaming Value→eB,World→eX,Calls→wH,undef→lS
open Go.Proofs.Tryz renaming prog→sU,underlying3→N6,underlying25→N7,func237→NA,func301→NC,strings_Index_one→ND,func212→NL,ntmps212→NM,underlying39→wG,func72→NT,ntmps72→NU,func71→NV,ntmps71→NW,results71→NX
open List renaming drop_succ_cons→MF,take_zero→ME,length_append→nL,range→mO,mem_map→rR,getElem?_eq_some_iff→rD,length_map→aN,cons_append→mJ,size_toArray→tQ,length_cons→nM,length_nil→pC,push_toArray→tV,append_toArray→tX,nil_append→nV,take_append_drop→nS,drop_eq_getElem_cons→nP,drop_length→aV,mem_cons→iT,append_assoc→sM,not_mem_nil→lA,map_cons→DM,map_nil→H3,take_succ_eq_append_getElem→nN,take_length→aU,mem_of_getElem?→lC,take_add_one→NP,getD_eq_getElem?_getD→lB,length_take→pZ,flatMap_append→pD
open Nat renaming zero_le→wB,reduceAdd→tR,reduceSub→tS,min_eq_left→I1
open Go.Lib renaming indexByte→DH,decFrom→NI,decNat→NJ,decDigits→rG,atoi→NK,itoa→nJ,cut→NN,trimSuffix→NO
open ByteArray renaming mk→tD,ext→N8,data_extract→N9,size→DQ
open Array renaming replicate_succ→tT,replicate_zero→tU,getElem?_eq_some_iff→lE,ext'→NF,toList_append→NG,toList_push→NH
open Option renaming getD_some→rS
open Go.World renaming cell?_setCell_same'→NB,frozen?_setCell→tI,cell?_setCell_other→LA,putObj_heap_other→DB,cell?_of_block→sD,alloc→NE,frozen?_of_block→I4,ownsRow→NQ
open Go.RowKit renaming Below→tH
open UInt8 renaming ofNat→nK,toNat_ofNat'→rH,toNat→NS
open Go.Calls renaming quiet_of_same→NY
namespace Go.Proofs.YtolgebdmffcemaaGreatDoor
open Go Go.Conc Go.ChangeShapes Go.WideShapes Go.ChangeAt Go.RowKit Go.Shelf
section
variable {H:Type}{enc:TypeId×eB→H}
theorem uI:Tryz.prog.cellsOf 48=4:=by kernel_rfl
theorem four {α:Type}(l:List α)(h:l.length=4):∃a b c d,l=[a,b,c,d]:=by
 rcases l with _|⟨a,l⟩
 ·simp at h
 rcases l with _|⟨b,l⟩
 ·simp at h
 rcases l with _|⟨c,l⟩
 ·simp at h
 rcases l with _|⟨d,l⟩
 ·simp at h
 rcases l with _|⟨x,l⟩
 ·exact⟨a,b,c,d,rfl⟩
 ·simp at h
def qx (o:R.Raw):List eB:=[.int .i64 o.kind,.int .i64 o.br,.int .i64 o.path,.int .i64 o.n]
theorem cz {w:eX}{sp:Nat→Bool}{hd:Bool}{n:Nat}{cs:List eB}{x:DataW H×List MemPlace}(h:DataW.trod enc sU w 0 sp hd n 48 cs=some x):
  ∃o:R.Raw,cs=qx o∧okR o:=by
 obtain⟨xs,m,rfl,rfl,hl,a0,hf⟩:=DataW.trod_struct Tryz.underlying48 h;clear h;rw[uI]at hl;obtain⟨c0,c1,c2,c3,rfl⟩:=four cs hl;obtain⟨x0,x1,x2,x3,rfl⟩:=four xs a0;have h0:DataW.trod enc sU w 0 sp hd m 3 (([c0,c1,c2,c3].drop 0).take (Tryz.prog.cellsOf 3))=some x0:=hf 0 _ rfl;have h1:DataW.trod enc sU w 0 sp hd m 3 (([c0,c1,c2,c3].drop 1).take (Tryz.prog.cellsOf 3))=some x1:=hf 1 _ rfl;have h2:DataW.trod enc sU w 0 sp hd m 3 (([c0,c1,c2,c3].drop 2).take (Tryz.prog.cellsOf 3))=some x2:=hf 2 _ rfl;have h3:DataW.trod enc sU w 0 sp hd m 3 (([c0,c1,c2,c3].drop 3).take (Tryz.prog.cellsOf 3))=some x3:=hf 3 _ rfl;clear hf;rw[Fo]at h0 h1 h2 h3;obtain⟨n0,e0, -,k0⟩:=DataW.trod_int N6 h0;obtain⟨n1,e1, -,k1⟩:=DataW.trod_int N6 h1;obtain⟨n2,e2, -,k2⟩:=DataW.trod_int N6 h2;obtain⟨n3,e3, -,k3⟩:=DataW.trod_int N6 h3;simp only[List.drop_zero,MF,List.take_succ_cons,ME,List.cons.injEq,and_true]at e0 e1 e2 e3;subst e0 e1 e2 e3;exact⟨⟨n0,n1,n2,n3⟩,rfl,⟨XD k0,XD k1,XD k2,XD k3⟩⟩
theorem JK (l:List R.Raw):(yk l).length=4*l.length:=by
 induction l with
 |nil=>rfl
 |cons o l ih=>
  show(qx o++yk l).length=_;rw[nL,ih];simp[qx];omega
theorem Gw (l:List R.Raw)(i j:Nat)(h:i<l.length)(hj:j<4):(yk l)[i*4+j]? =(qx (l[i]'h))[j]? :=by
 obtain⟨h0,h1,h2,h3⟩:=K4 l i h;rcases(by omega:j=0∨j=1∨j=2∨j=3)with rfl|rfl|rfl|rfl
 ·exact h0
 ·exact h1
 ·exact h2
 ·exact h3
theorem uc {w:eX}{base:Nat}{v:eB}{d:DataW H}{ps:List MemPlace}(hv:Value.okWide sU w .any base 25 v)(h:DataW.Trod enc sU w 0 (fun _=>true) true 25 v d ps):
  ∃l:List R.Raw,(∀o∈l,okR o)∧Rd w (fun _=>False) v l.length (yk l):=by
 obtain⟨a4,h⟩:=h;obtain⟨a,len,cap,rfl⟩:=okWide_slice N7 hv;clear hv;rcases Deep.open_slice N7 h with⟨h1,h2⟩|⟨a',a2,a1,m,n,D,Pl,h1, -,hl,hc,hm,hx,he⟩
 ·obtain⟨rfl,rfl,rfl⟩:a=none∧len=0∧cap=0:=by simpa[Value.cells]using h1
  exact⟨[],by simp,none,0,rfl,j0a _,wB _,fun h=>absurd h (Nat.lt_irrefl _)⟩
 ·obtain⟨rfl,rfl,rfl⟩:a=some a' ∧len=a2 ∧cap=a1 :=by simpa[Value.cells]using h1
  obtain rfl:m=cap:=by simpa using hm
  clear hx h h1 hm;rw[uI]at he;have a6:Inhabited R.Raw:=⟨⟨0,0,0,0⟩⟩
  obtain⟨f,hf⟩:=Deep.choose_lt (α:=R.Raw) (n:=m) (p:=fun i o=>w.cells? 0 (a'.add (i*4)) 4=some (qx o)∧okR o) (fun i hi=>by
   obtain⟨cs,h1,h2⟩:=he i hi;obtain⟨o,rfl,h3⟩:=cz h2;exact⟨o,h1,h3⟩)
  refine⟨(mO len).map f,fun o ho=> ?_,some a',m,by simp,by simpa using hl,hc,fun h0=> ?_⟩
  ·obtain⟨i,hi,rfl⟩:=rR.1 ho
   exact(hf i (j0b (List.mem_range.1 hi) hl)).2
  ·have a5 :0<len:=by simpa using h0
   have a0:∀i,i<len→∀j,j<4→w.cell? ((a'.add (i*4)).add j)=(qx (f i))[j]? :=fun i hi=>(World.cells?_some (hf i (j0b hi hl)).1).2.2
   obtain⟨b,off,a3⟩:=a';have g0:=a0 0 a5 0 (by omega);have g1:(qx (f 0))[0]? =some (.int .i64 (f 0).kind):=rfl;rw[g1]at g0;obtain rfl:a3=none:=by simpa[Addr.add]using World.cell?_spot g0
   refine⟨b,off,rfl,?_,id,fun j u hu=> ?_⟩
   ·exact JL g0
   ·have hj:j<4*len:=by
     have:=(rD.1 hu).1;rw[JK,aN,List.length_range]at this;exact this
    have h1:=a0 (j/4) (by omega) (j % 4) (by omega);rw[Deep.add_add,show j/4*4+j % 4=j from by omega]at h1;rw[add_plain]at h1;rw[h1,←hu];have h2:=Gw ((mO len).map f) (j/4) (j % 4) (by simp;omega) (by omega);rw[show j/4*4+j % 4=j from by omega]at h2;rw[h2];simp
end
theorem JM {w w' :eX}(h:ze w w'):b_ w.heap.size w w' :=⟨h.os,h.output,h.size,fun b hb=>h.block b hb⟩
theorem un:laidOutB sU=true:=by kernel_rfl
theorem vo:Tryz.prog.readableRec 25=true:=by kernel_rfl
theorem fl:25<Tryz.prog.types.size:=of_decide_eq_true (by kernel_rfl)
theorem UI (c:UInt8)(r:List UInt8):∀u:List UInt8,(∀z∈u,z≠c)→DH (u++c::r) c=(u.length:Int)
 |[],_=>by simp[DH]
 |x::u,h=>by
  have h1:(x==c)=false:=by rw[beq_eq_false_iff_ne];exact h x (by simp)
  have h2:=UI c r u fun z hz=>h z (by simp[hz])
  rw[mJ,DH,h1,h2];have h3:((u.length:Int)== -1)=false:=by rw[beq_eq_false_iff_ne];omega
  simp[h3]
theorem Oj (c:UInt8):∀u:List UInt8,(∀z∈u,z≠c)→DH u c= -1
 |[],_=>rfl
 |x::u,h=>by
  have h1:(x==c)=false:=by rw[beq_eq_false_iff_ne];exact h x (by simp)
  rw[DH,h1,Oj c u fun z hz=>h z (by simp[hz])];simp
theorem J9 (u r:List UInt8):(tD (u++r).toArray).extract 0 u.length=⟨u.toArray⟩:=by
 apply N8;simp[N9]
theorem QJ (u r:List UInt8)(m:Nat)(hm:m=(u++r).length):(tD (u++r).toArray).extract u.length m=⟨r.toArray⟩:=by
 subst hm;apply N8;simp[N9]
def UZ (Bx:Nat)(w:eX):Nat:=match w.cell? ⟨Bx,0,none⟩with|some (.string b)=>b.size|_=>0
theorem QM {Bx:Nat}{w:eX}{b:ByteArray}(h:w.cell? ⟨Bx,0,none⟩=some (.string b)):UZ Bx w=b.size:=by
 unfold UZ;rw[h]
def Q1 (L:List (List UInt8))(k:Nat):Array eB:= #[.string ⟨(L[k]?.getD []).toArray⟩]
theorem G9 {L:List (List UInt8)}(hL:∀x∈L,∃u,x=u++ [10]∧∀z∈u,z≠10)(e6:L.flatten.length≤1000000)(Bx:Nat)(w0:eX)(hc:w0.cell? ⟨Bx,0,none⟩=some (.string ⟨L.flatten.toArray⟩))(hf:w0.frozen? ⟨Bx,0,none⟩=false)(n:Nat)(hn:1≤n):
  dq Fence.wide n sU 237 #[.pointer (some ⟨Bx,0,none⟩)] L.length (Q1 L) (fun b=>b=Bx) Bx w0:=by
 intro l J b4 b5 hY W h0 hX;have a6:=z4 ((hX.cell (b:=Bx) rfl 0).trans hc);have a8:=z4 ((hX.frozen (b:=Bx) rfl 0).trans hf);have b2:=z4 h0;have d4:=z4 b4;have d5:=z4 b5;have HY:=z4 hY;have HL:=z4 hL;clear hX hc hf h0 b4 b5 hY hL;refine callsIn_of_wp NA rfl trivial ?_ rfl;simp only[Tryz.ntmps237,tQ,nM,pC,tR,tS,tT,tU,tV,tX,nV,mJ];gi_wp2
 gi_loopw [3] (fun _ wr=>∃k:Nat,k≤L.length∧J k wr∧wr.cell? ⟨Bx,0,none⟩=some (.string ⟨(L.drop k).flatten.toArray⟩)∧wr.frozen? ⟨Bx,0,none⟩=false) (fun _ wr=>UZ Bx wr)
 case atStart=>exact⟨0,wB _,b2.out,a6.out,a8.out⟩
 case round=>
  obtain⟨k,hk,hJ,a0,b8⟩:=hrel;have HJ:=z4 hJ;clear hJ b2 a6 a8;by_cases a2:k<L.length
  ·obtain⟨u,hu,c6⟩:=HL.out _ (j0c a2)
   have c7:Q1 L k= #[.string ⟨(u++ [10]).toArray⟩]:=by
    unfold Q1;rw[j0d a2,rS,hu]
   have a4:(L.drop k).flatten.length≤L.flatten.length:=by
    conv=>rhs;rw[←nS k L,List.flatten_append,nL]
    omega
   obtain⟨rest,a1⟩:∃rest,rest=(L.drop (k+1)).flatten:=⟨_,rfl⟩
   have he:(L.drop k).flatten=u++10::rest:=by
    rw[nP a2,List.flatten_cons,hu,a1];simp
   rw[he]at a0 a4;have a9:Hid (∀W:eX,wH sU 238 #[.string ⟨(u++10::rest).toArray⟩,.int .u8 10] W fun e w' =>e= .returned (.int .i64 (u.length:Int))∧w' =W):=fun W=>by
    have:=Tryz.strings_IndexByte ⟨(u++10::rest).toArray⟩ 10 W;rw[show DH (tD (u++10::rest).toArray).data.toList ((10:Int).toNat.toUInt8)=(u.length:Int)from UI 10 rest u c6]at this;exact this
   have d7:=z4 a1;have d6:=z4 c7;have d9:(u++10::rest).length=u.length+1+rest.length:=by simp;omega
   have e1:(tD (u++10::rest).toArray).extract 0 (u.length+1)=⟨(u++ [10]).toArray⟩:=by
    have:=J9 (u++ [10]) rest;simpa using this
   have e2:(tD (u++10::rest).toArray).extract (u.length+1) (u.length+1+rest.length)=⟨rest.toArray⟩:=by
    have:=QJ (u++ [10]) rest (u.length+1+rest.length) (by simp;omega);simpa using this
   have a5:(tD (u++10::rest).toArray).size=u.length+1+rest.length:=by simp[DQ];omega
   clear hu c7 a1 he c6;generalize(tD (u++10::rest).toArray)=tx at*;have e3:(0:Int)<(tx.size:Int):=by omega
   gi_wp2_with (refine⟨trivial,?_⟩;gi_at_call 238;refine(callsIn_wide.2 (a9.out _)).mono ?_;rintro e w' ⟨rfl,hw⟩;replace hw:=hw.symm;subst hw)
   refine wpIn_wide.2 ?_;have b1:IntKind.i64.wrap ((u.length:Int)+1)=((u.length+1:Nat):Int):=by rw[IntKind.wrap_i64];push_cast;omega
   have b6:((wr.setCell ⟨Bx,0,none⟩ (.string ⟨rest.toArray⟩)).drew).cell? ⟨Bx,0,none⟩=some (.string ⟨rest.toArray⟩):=NB _ _ _ (by rw[a0];rfl);have b7:((wr.setCell ⟨Bx,0,none⟩ (.string ⟨rest.toArray⟩)).drew).frozen? ⟨Bx,0,none⟩=false:=by
    show(wr.setCell ⟨Bx,0,none⟩ (.string ⟨rest.toArray⟩)).frozen? ⟨Bx,0,none⟩=false;rw[tI];exact b8
   have d3:Hid (J k ((wr.setCell ⟨Bx,0,none⟩ (.string ⟨rest.toArray⟩)).drew)):=d5.out _ _ 1 (d4.out _ _ (.string ⟨rest.toArray⟩) HJ.out);have a7:=z4 b6;have c8:=z4 b7;have HM:=z4 (QM a0);clear b6 b7;go_region_with (fail)
   all_goals
    clear a0 b8 HJ a9;generalize(wr.setCell ⟨Bx,0,none⟩ (.string ⟨rest.toArray⟩)).drew=X at*;obtain⟨fn,tmps,assign,body,hy,hR⟩:=HY.out k X a2 d3.out;rw[d6.out]at hy;have HR:=z4 hR;clear hR;gi_wp2
    refine HR.out.mono ?_;rintro e W' ⟨rfl,b3,b9⟩;have c9 :=z4 b3;have a3 :=z4 b9;clear b3 b9 HR hy;gi_wp2
    go_roundw
    case rel=>exact⟨k+1,by omega,c9.out,by rw[←d7.out];exact(a3.out.cell rfl 0).trans a7.out,(a3.out.frozen rfl 0).trans c8.out⟩
    case measure=>
     rw[HM.out,QM ((a3.out.cell rfl 0).trans a7.out),a5];simp[DQ]
  ·have d8:k=L.length:=by omega
   subst d8;rw[aV]at a0;have a0:wr.cell? ⟨Bx,0,none⟩=some (.string ⟨#[]⟩):=a0;gi_wp2
   go_end0
   exact⟨⟨_,rfl⟩,HJ.out⟩
theorem gM {L:List (List UInt8)}(hL:∀x∈L,∀z∈x,z≠59)(b7:0<L.length)(f3:(R.joinI L).length≤1000000)(Bs Bp Bv:Nat)(e6:Bp≠Bs)(e7:Bv≠Bs)(w0:eX)
  (hc:w0.cell? ⟨Bs,0,none⟩=some (.string ⟨(R.joinI L).toArray⟩))(hf:w0.frozen? ⟨Bs,0,none⟩=false)(a7:w0.cell? ⟨Bp,0,none⟩=some (.string ⟨#[59]⟩))(a8:w0.cell? ⟨Bv,0,none⟩=some (.int .i64 0))(n:Nat)(hn:1≤n):
  dq Fence.wide n sU 301 #[.pointer (some ⟨Bp,0,none⟩),.pointer (some ⟨Bs,0,none⟩),.pointer (some ⟨Bv,0,none⟩)] L.length (Q1 L) (fun b=>b=Bs∨b=Bp∨b=Bv) Bs w0:=by
 intro l J c9 d8 hY W h0 hX;have b9:=z4 ((hX.cell (b:=Bs) (.inl rfl) 0).trans hc);have c6:=z4 ((hX.frozen (b:=Bs) (.inl rfl) 0).trans hf);have b5:=z4 ((hX.cell (b:=Bp) (.inr (.inl rfl)) 0).trans a7);have c8:=z4 ((hX.cell (b:=Bv) (.inr (.inr rfl)) 0).trans a8);have c7:=z4 h0;have d6:=z4 c9;have HY:=z4 hY;have HL:=z4 hL;clear hX hc hf a7 a8 h0 c9 d8 hY hL;refine callsIn_of_wp NC rfl trivial ?_ rfl;simp only[Tryz.ntmps301,tQ,nM,pC,tR,tS,tT,tU,tV,tX,nV,mJ];have e3:=b5.out;gi_wp2
 clear e3;gi_loopw [7] (fun _ wr=>∃k:Nat,k<L.length∧J k wr∧wr.cell? ⟨Bs,0,none⟩=some (.string ⟨(R.joinI (L.drop k)).toArray⟩)∧wr.frozen? ⟨Bs,0,none⟩=false∧wr.cell? ⟨Bp,0,none⟩=some (.string ⟨#[59]⟩)∧wr.cell? ⟨Bv,0,none⟩=some (.int .i64 0)) (fun _ wr=>UZ Bs wr)
 case atStart=>exact⟨0,b7,c7.out,b9.out,c6.out,b5.out,c8.out⟩
 case round=>
  obtain⟨k,a9,hJ,a0,d4,a7,a8⟩:=hrel;have HJ:=z4 hJ;clear hJ c7 b9 c6 b5 c8;have b2:=HL.out _ (j0c a9);have a1:=F5 L k a9;have b3:Q1 L k= #[.string ⟨L[k].toArray⟩]:=by
   unfold Q1;rw[j0d a9,rS]
  have a4:∀(M:List (List UInt8)) (j:Nat),(R.joinI (M.drop j)).length≤(R.joinI M).length:=by
   intro M;induction M with
   |nil=>intro j;simp
   |cons a r ih=>
    intro j
    cases j with
    |zero=>simp
    |succ j=>
     have:=ih j;rw[MF]
     cases r with
     |nil=>simp[R.joinI]
     |cons b r=>rw[R.joinI];simp only[nL,nM];omega
  have b1:=a4 L k;clear a4;generalize L[k]=u at*;by_cases a2:k+1=L.length
  ·rw[if_pos a2,List.append_nil]at a1
   rw[a1]at a0 b1;have b4:Hid (∀W:eX,wH sU 229 #[.string ⟨u.toArray⟩,.string ⟨#[59]⟩] W fun e w' =>e= .returned (.int .i64 (-1))∧w' =W):=fun W=>by
    have:=ND ⟨u.toArray⟩ 59 W;rw[show DH (tD u.toArray).data.toList 59= -1 from Oj 59 u b2]at this;exact this
   have b6:=z4 b3;clear b3 b2;obtain⟨fn,tmps,assign,body,hy,hR⟩:=HY.out k wr a9 HJ.out;rw[b6.out]at hy;have HR:=z4 hR;clear hR;gi_wp2_with (refine⟨trivial,?_⟩;gi_at_call 229;refine(callsIn_wide.2 (b4.out _)).mono ?_;rintro e w' ⟨rfl,hw⟩;replace hw:=hw.symm;subst hw)
   refine HR.out.mono ?_;rintro e W' ⟨rfl,a6,a5⟩;rw[a2]at a6;gi_wp2
   go_end0
   exact⟨⟨_,rfl⟩,a6⟩
  ·rw[if_neg a2]at a1
   obtain⟨rest,a3⟩:∃rest,rest=R.joinI (L.drop (k+1)):=⟨_,rfl⟩
   rw[←a3]at a1;rw[a1]at a0 b1;have b4:Hid (∀W:eX,wH sU 229 #[.string ⟨(u++59::rest).toArray⟩,.string ⟨#[59]⟩] W fun e w' =>e= .returned (.int .i64 (u.length:Int))∧w' =W):=fun W=>by
    have:=ND ⟨(u++59::rest).toArray⟩ 59 W;rw[show DH (tD (u++59::rest).toArray).data.toList 59=(u.length:Int)from UI 59 rest u b2]at this;exact this
   have d7:=z4 a3;have b6:=z4 b3;have e1:(u++59::rest).length=u.length+1+rest.length:=by simp;omega
   have e9:(tD (u++59::rest).toArray).extract 0 u.length=⟨u.toArray⟩:=J9 u (59::rest);have f0:(tD (u++59::rest).toArray).extract (u.length+1) (u.length+1+rest.length)=⟨rest.toArray⟩:=by
    have:=QJ (u++ [59]) rest (u.length+1+rest.length) (by simp;omega);simpa using this
   have b8:(tD (u++59::rest).toArray).size=u.length+1+rest.length:=by simp[DQ];omega
   clear b3 a3 a1 b2;generalize(tD (u++59::rest).toArray)=tx at*;have HM:=z4 (QM a0);obtain⟨fn,tmps,assign,body,hy,hR⟩:=HY.out k wr a9 HJ.out;rw[b6.out]at hy;have HR:=z4 hR;clear hR;gi_wp2_with (refine⟨trivial,?_⟩;gi_at_call 229;refine(callsIn_wide.2 (b4.out _)).mono ?_;rintro e w' ⟨rfl,hw⟩;replace hw:=hw.symm;subst hw)
   refine HR.out.mono ?_;rintro e W' ⟨rfl,a6,a5⟩;have d5:=z4 (d6.out _ _ (.string ⟨rest.toArray⟩) a6);have d3 :=(a5.cell (b:=Bs) (.inl rfl) 0).trans a0;have d9 :=(a5.frozen (b:=Bs) (.inl rfl) 0).trans d4;have e2 :=(a5.cell (b:=Bp) (.inr (.inl rfl)) 0).trans a7;have e8 :=(a5.cell (b:=Bv) (.inr (.inr rfl)) 0).trans a8;clear a0 d4 a7 a8 HR hy a6 a5 HJ;gi_wp2
   go_roundw
   case rel=>
    refine⟨k+1,by omega,d5.out,?_,by rw[tI];exact d9,?_,?_⟩
    ·rw[←d7.out]
     exact NB _ _ _ (by rw[d3];rfl)
    ·rw[LA _ _ _ _ (by intro e;cases e;exact e6 rfl)];exact e2
    ·rw[LA _ _ _ _ (by intro e;cases e;exact e7 rfl)];exact e8
   case measure=>
    rw[HM.out,QM (NB _ _ (.string ⟨rest.toArray⟩) (by rw[d3];rfl)),b8];simp[DQ]
section
attribute [local go_sem] Oper.semAt_some
structure Bi (w:eX)(M:Nat→Prop)(Bt:Nat)(cs:List (Nat×eB))(tv:eB)(t:List R.Leaf)(W:eX):Prop where
 box:∀p∈(Bt,tv)::cs,p.1<W.heap.size∧W.cell? ⟨p.1,0,none⟩=some p.2∧W.frozen? ⟨p.1,0,none⟩=false
 pt:PT W M tv t
 below:tH w.heap.size w W
section
variable {w W W' :eX}{M:Nat→Prop}{Bt:Nat}{cs:List (Nat×eB)}{tv:eB}{t:List R.Leaf}
theorem Bi.step (h:Bi w M Bt cs tv t W){Z:Nat→Prop}(hk:zf Z W W')(hZ:∀b,Z b→M b∧w.heap.size≤b∧∀p∈(Bt,tv)::cs,p.1≠b):Bi w M Bt cs tv t W' :=by
 refine⟨fun p hp=> ?_,h.pt.step hk (fun b hb=>(hZ b hb).1) (fun b hb=> .inl hb),?_⟩
 ·obtain⟨h1,h2,h3⟩:=h.box p hp
  have hn:¬Z p.1:=fun e=>(hZ _ e).2.2 p hp rfl
  exact⟨j0b h1 hk.size,by rw[hk.cell (p:=⟨p.1,0,none⟩) h1 hn];exact h2,by rw[hk.frozen (p:=⟨p.1,0,none⟩) h1 hn];exact h3⟩
 ·exact⟨hk.os.trans h.below.os,hk.tape.trans h.below.tape,hk.output.trans h.below.output,j0f h.below.size hk.size,fun k a0 =>by
   rw[hk.block k (j0b a0 h.below.size) (fun e=>by have:=(hZ k e).2.1;omega)];exact h.below.block k a0⟩
theorem Qd (W:eX)(l:Nat)(o:Obj):zf (fun b=>b=l) W (W.putObj l o):=⟨rfl,rfl,rfl,by simp,fun k _ hn=>DB hn⟩
theorem V_ (W:eX)(l:Nat)(v:eB):zf (fun b=>b=l) W (W.setCell ⟨l,0,none⟩ v):=zf.setCell (M:=fun b=>b=l) (p:=⟨l,0,none⟩) (zf.refl _ W) (.inl rfl) v
theorem jT (W:eX)(o:Obj):zf (fun _=>False) W (W.alloc o):=⟨rfl,rfl,rfl,by simp,fun k hk _=>Below.heap_alloc W o k hk⟩
theorem Bi.each {tr:Nat→List R.Leaf}{V:eX}{Bx:Nat}(h0:∃tv,Bi w M Bt cs tv (tr 0) V)
  (hM:∀b,(b=V.heap.size∨b=V.heap.size+1∨b=Bx)→M b∧w.heap.size≤b)(a1:∀b,(b=Bt∨b∈cs.map (·.1))→b<V.heap.size∧b≠Bx):Bh V Bx (fun j W=>∃tv,Bi w M Bt cs tv (tr j) W):=by
 have a0:∀(tv:eB),∀p∈(Bt,tv)::cs,p.1<V.heap.size∧p.1≠Bx:=fun tv p hp=>by
  rcases iT.1 hp with rfl|hp
  ·exact a1 _ (.inl rfl)
  ·exact a1 _ (.inr (rR.2 ⟨p,hp,rfl⟩))
 refine⟨fun j W l o ⟨tv,h⟩ hl=>⟨tv,h.step (Qd W l o) ?_⟩,fun o o' => ?_,fun j W v ⟨tv,h⟩=>⟨tv,h.step (V_ W Bx v) ?_⟩,fun j W q ⟨tv,h⟩=>⟨tv,h.step ((zf.refl (fun _=>False) W).drewN q) fun b e=>e.elim⟩⟩
 ·rintro b rfl
  have:=hM b (by rcases hl with e|e;exact .inl e;exact .inr (.inl e));exact⟨this.1,this.2,fun p hp e=>by have:=(a0 tv p hp).1;omega⟩
 ·obtain⟨tv,h⟩:=h0
  exact⟨tv,(h.step (jT V o) fun b e=>e.elim).step (jT _ o') fun b e=>e.elim⟩
 ·rintro b rfl
  have:=hM b (.inr (.inr rfl));exact⟨this.1,this.2,fun p hp=>(a0 tv p hp).2⟩
theorem Bi.set (h:Bi w M Bt cs tv t W){w1:eX}(hb:tH W.heap.size W w1){a1 :eB}{t' :List R.Leaf}(hp:PT w1 M a1 t')(a2:M Bt∧w.heap.size≤Bt)(a3:∀p∈cs,p.1≠Bt):Bi w M Bt cs a1 t' (w1.setCell ⟨Bt,0,none⟩ a1):=by
 have h1:Bi w M Bt cs tv t w1:=h.step (zf.of_below (M:=fun _=>False) hb) fun b e=>e.elim
 obtain⟨g1,g2,g3⟩:=h1.box (Bt,tv) (by simp);have hk:=V_ w1 Bt a1;refine⟨fun p a0 => ?_,hp.step hk (fun b e=>by rw[e];exact a2.1) (fun b hb=> .inl hb),?_⟩
 ·rcases iT.1 a0 with rfl|a0
  ·exact⟨j0b g1 hk.size,NB _ _ _ (by rw[g2];rfl),by rw[tI];exact g3⟩
  ·obtain⟨f1,f2,f3⟩:=h1.box p (List.mem_cons_of_mem _ a0)
   have hn:¬p.1=Bt:=a3 p a0;exact⟨j0b f1 hk.size,by rw[hk.cell (p:=⟨p.1,0,none⟩) f1 hn];exact f2,by rw[hk.frozen (p:=⟨p.1,0,none⟩) f1 hn];exact f3⟩
 ·exact h1.below.setCell (p:=⟨Bt,0,none⟩) a2.2 _
theorem ka {n:Nat}{W W' :eX}(h1:W.heap.size≤W'.heap.size)(h2:∀k,n≤k→k<W.heap.size→W'.heap[k]? =W.heap[k]?):KeepsFrom n W W' :=
 ⟨h1,fun k o hk ho _=>by rw[h2 k hk (lE.1 ho).1];exact ho⟩
theorem ql {w1:eX}(hb:tH W.heap.size W w1)(Bt:Nat)(v:eB)(k:Nat)(hk:k<W.heap.size)(hn:k≠Bt):(w1.setCell ⟨Bt,0,none⟩ v).heap[k]? =W.heap[k]? :=(Below.heap_setCell w1 ⟨Bt,0,none⟩ v k hn).trans (hb.block k hk)
theorem QY (w1:eX)(a:Addr)(v:eB):(w1.setCell a v).heap.size=w1.heap.size:=by
 show(w1.heap.modify _ _).size=_;rw[Array.size_modify]
theorem jd (W:eX){b b' :Nat}(v:eB)(h:b≠b'):(W.setCell ⟨b',0,none⟩ v).cell? ⟨b,0,none⟩=W.cell? ⟨b,0,none⟩:=sD (a:=⟨b,0,none⟩) (Below.heap_setCell W ⟨b',0,none⟩ v b h)
theorem kl (W:eX){b l:Nat}(o:Obj)(h:b≠l):(W.putObj l o).cell? ⟨b,0,none⟩=W.cell? ⟨b,0,none⟩:=sD (a:=⟨b,0,none⟩) (DB h)
theorem ZU {V:eX}{b:Nat}{v:eB}{t:TypeId}(h:V.heap[b]? =some (.cells #[v] t)):V.cell? ⟨b,0,none⟩=some v∧V.frozen? ⟨b,0,none⟩=false:=by
 constructor
 ·simp[World.cell?,h]
 ·simp[World.frozen?,h]
end
theorem dh (w:eX)(o0 o1 o2 o3 o4 o5 o6:Obj):(((((((w.alloc o0).alloc o1).alloc o2).alloc o3).alloc o4).alloc o5).alloc o6).heap=w.heap++ #[o0,o1,o2,o3,o4,o5,o6]:=by
 simp only[NE];apply NF;simp only[NG,NH,sM,mJ,nV]
theorem gR (l:List UInt8)(w:eX):
  wH sU 274 #[.string ⟨l.toArray⟩,.string ⟨#[59]⟩] w fun e w' =>e= .returned (.func (.func 301) #[] #[.pointer (some ⟨w.heap.size+1,0,none⟩),.pointer (some ⟨w.heap.size,0,none⟩),.pointer (some ⟨w.heap.size+2,0,none⟩)])∧
   w' =((w.alloc (.cells #[.string ⟨l.toArray⟩] 9)).alloc (.cells #[.string ⟨#[59]⟩] 9)).alloc (.cells #[.int .i64 0] 3):=by
 go_enter Tryz.func274,Tryz.ntmps274;have h:∀W:eX,wH sU 294 #[.string ⟨l.toArray⟩,.string ⟨#[59]⟩,.int .i64 0] W fun e w' =>e= .returned (.func (.func 301) #[] #[.pointer (some ⟨W.heap.size+1,0,none⟩),.pointer (some ⟨W.heap.size,0,none⟩),.pointer (some ⟨W.heap.size+2,0,none⟩)])∧
   w' =((W.alloc (.cells #[.string ⟨l.toArray⟩] 9)).alloc (.cells #[.string ⟨#[59]⟩] 9)).alloc (.cells #[.int .i64 0] 3):=by
  intro W;go_enter Tryz.func294,Tryz.ntmps294;go_wp2;go_ret;exact⟨by simp,rfl⟩
 have H:=z4 h;clear h;go_wp2_with fail
 refine(H.out _).mono ?_;rintro e W ⟨rfl,rfl⟩;go_wp2;go_ret;exact⟨rfl,rfl⟩
theorem Fc {T:List R.Leaf}{x:R.Leaf}(hN:Xt T x)(hk:x.kind=42)(v:eB)(w:eX)(M:Nat→Prop)(hM:∀b,M b→b<w.heap.size)(h:PT w M v T):
  wH sU 242 #[v,.string ⟨x.path.toArray⟩,.string ⟨(R.joinI x.items).toArray⟩] w fun e w' =>∃va vn vc,e= .returned (.tuple #[.slice va vn vc,.int .i64 0])∧PT w' M (.slice va vn vc) (T++ [x])∧tH w.heap.size w w' :=by
 refine(callsIn_wide (n:=3)).1 ?_;refine callsIn_of_wp_marks Tryz.func242 rfl trivial ?_ rfl;simp only[Tryz.ntmps242,tQ,nM,pC,tR,tS,tT,tU,tV,tX,nV,mJ];have b4:=z4 (gR (R.joinI x.items));obtain⟨va,vc,rfl⟩:=Y2 h;gi_wp2_with (refine⟨trivial,?_⟩;gi_at_call 274;refine(callsIn_wide.2 (b4.out _)).mono ?_;rintro e w' ⟨rfl,rfl⟩)
 have hR:∃V,(((((((w.alloc (.cells #[.slice va T.length vc] 93)).alloc (.cells #[.string ⟨x.path.toArray⟩] 9)).alloc (.cells #[.slice none 0 0] 93)).alloc (.cells #[.int .i64 0] 31)).alloc (.cells #[.string ⟨(R.joinI x.items).toArray⟩] 9)).alloc (.cells #[.string ⟨#[59]⟩] 9)).alloc (.cells #[.int .i64 0] 3))=V:=⟨_,rfl⟩
 obtain⟨V,hV⟩:=hR;rw[hV];have hh:V.heap=w.heap++ #[.cells #[.slice va T.length vc] 93,.cells #[.string ⟨x.path.toArray⟩] 9,.cells #[.slice none 0 0] 93,.cells #[.int .i64 0] 31,.cells #[.string ⟨(R.joinI x.items).toArray⟩] 9,.cells #[.string ⟨#[59]⟩] 9,.cells #[.int .i64 0] 3]:=by
  rw[←hV];exact dh w _ _ _ _ _ _ _
 have b6:tH w.heap.size w V:=by
  rw[←hV];exact((((((((j0g _ w).alloc (j0a _) _).alloc (by simp) _).alloc (by simp;omega) _).alloc (by simp;omega) _).alloc (by simp;omega) _).alloc (by simp;omega) _).alloc (by simp;omega) _)
 have b8:V.heap.size=w.heap.size+7:=by rw[hh];simp
 have c0:=ZU (V:=V) (b:=w.heap.size) (v:= .slice va T.length vc) (t:=93) (by rw[hh];simp);have c1:=ZU (V:=V) (b:=w.heap.size+1) (v:= .string ⟨x.path.toArray⟩) (t:=9) (by rw[hh];simp);have c2:=ZU (V:=V) (b:=w.heap.size+2) (v:= .slice none 0 0) (t:=93) (by rw[hh];simp);have c3:=ZU (V:=V) (b:=w.heap.size+3) (v:= .int .i64 0) (t:=31) (by rw[hh];simp);have c4:=ZU (V:=V) (b:=w.heap.size+4) (v:= .string ⟨(R.joinI x.items).toArray⟩) (t:=9) (by rw[hh];simp);have c5:=ZU (V:=V) (b:=w.heap.size+5) (v:= .string ⟨#[59]⟩) (t:=9) (by rw[hh];simp);have c6:=ZU (V:=V) (b:=w.heap.size+6) (v:= .int .i64 0) (t:=3) (by rw[hh];simp);clear hV hh b4;obtain⟨M',a5⟩:∃M' :Nat→Prop,M' =fun b=>M b∨(w.heap.size≤b∧b<w.heap.size+9):=⟨_,rfl⟩
 have d6:∀b,M' b→M b∨w.heap.size≤b:=fun b hb=>by rw[a5]at hb;exact hb.imp id (·.1)
 have a6:∀b,w.heap.size≤b→b<w.heap.size+9→M' b:=fun b h1 h2=>by rw[a5];exact .inr ⟨h1,h2⟩
 have d7:∀b,M' b→b<w.heap.size+9:=fun b hb=>by
  rw[a5]at hb;rcases hb with hb|hb
  ·have:=hM b hb;omega
  ·exact hb.2
 have d8:∀b,M b→M' b:=fun b hb=>by rw[a5];exact .inl hb
 clear a5;have d5:∀y∈x.items,∀z∈y,z≠59:=fun y hy z hz=>(Xl _ (hN.leaf.item y hy).1 z hz).2
 have b1:0<x.items.length:=by
  rcases hN.leaf.kind with⟨e,_⟩|⟨e,_⟩|⟨_,_,_,h3⟩
  ·rw[hk]at e;cases e
  ·rw[hk]at e;cases e
  ·exact List.length_pos_iff.2 h3
 have d9:(R.joinI x.items).length≤1000000:=by
  have h1:=R.joinI_length x.items (fun i hi=>by have:=Zs _ (hN.leaf.item i hi).1;omega);have h2:=hN.leaf.many;omega
 have a2:=gM (L:=x.items) d5 b1 d9 (w.heap.size+4) (w.heap.size+5) (w.heap.size+6) (by omega) (by omega) V c4.1 c4.2 c5.1 c6.1 2 (by omega);have a7:Bi w M' w.heap.size [(w.heap.size+1,.string ⟨x.path.toArray⟩),(w.heap.size+2,.slice none 0 0),(w.heap.size+3,.int .i64 0)] (.slice va T.length vc) (xy T x 0) V:=by
  refine⟨fun p hp=> ?_,?_,b6⟩
  ·simp only[iT,lA,or_false]at hp
   rcases hp with rfl|rfl|rfl|rfl
   ·exact⟨by omega,c0⟩
   ·exact⟨by show _+1<_;omega,c1⟩
   ·exact⟨by show _+2<_;omega,c2⟩
   ·exact⟨by show _+3<_;omega,c3⟩
  ·exact h.step (zf.of_below (M:=fun _=>False) b6) (fun _ e=>e.elim) d6
 refine JP rfl (by omega) (gf:=301) (lb:= #[.pointer (some ⟨w.heap.size+5,0,none⟩),.pointer (some ⟨w.heap.size+4,0,none⟩),.pointer (some ⟨w.heap.size+6,0,none⟩)]) rfl trivial (enters_of NC (by kernel_rfl) rfl) a2 (by omega) (fun b hb=>by rcases hb with e|e|e<;>omega) (fun _=>rfl)
  (fun j W=>∃tv,Bi w M' w.heap.size [(w.heap.size+1,.string ⟨x.path.toArray⟩),(w.heap.size+2,.slice none 0 0),(w.heap.size+3,.int .i64 0)] tv (xy T x j) W)
  (Bi.each ⟨_,a7⟩ (fun b hb=>⟨a6 b (by omega) (by omega),by omega⟩) (fun b hb=>by simp only[DM,H3,iT,lA,or_false]at hb;omega))
  (fun j=>{tmps:= #[.slice va T.length vc,.string ⟨x.path.toArray⟩,.string ⟨(R.joinI x.items).toArray⟩,.pointer (some ⟨w.heap.size,0,none⟩),.pointer (some ⟨w.heap.size+1,0,none⟩),lS,.pointer (some ⟨w.heap.size+2,0,none⟩),.pointer (some ⟨w.heap.size+3,0,none⟩),.string ⟨(x.items[j]?.getD []).toArray⟩,lS,.string ⟨(R.joinI x.items).toArray⟩,.func (.func 301) #[] #[.pointer (some ⟨w.heap.size+5,0,none⟩),.pointer (some ⟨w.heap.size+4,0,none⟩),.pointer (some ⟨w.heap.size+6,0,none⟩)],.string ⟨(x.items[j]?.getD []).toArray⟩,lS,lS,lS,lS,lS,lS,lS,lS,lS,lS,lS],defers:=[]}) ?assign ?body ?done
 case assign=>
  intro l k W K hK;simp only[Q1];gi_wp2
  exact hK
 case body=>
  rintro l k W a8 e7 ⟨tv,a0⟩;have e0:=(a0.box (w.heap.size,tv) (by simp)).2.1;have c8:=(a0.box (w.heap.size,tv) (by simp)).2.2;have e1:=(a0.box (w.heap.size+1,.string ⟨x.path.toArray⟩) (by simp)).2.1;rw[b8]at e7;obtain⟨q1,q2⟩:=ct hN k a8;have b2:=Ba tv (xy T x k) x.path x.items[k] W M' (fun b hb=>by have:=d7 b hb;omega) a0.pt (gl hN k (by omega)) hN.leaf.path (by have:=Zs _ (hN.leaf.item _ (j0c a8)).1;unfold maxLen;omega);rw[q1]at b2;obtain⟨ta,tc,b3⟩:=Y2 a0.pt;subst b3;have b9:=z4 b2;have a3:=z4 a0;have c7:=z4 q2;have b7:x.items[k]?.getD []=x.items[k]:=by rw[j0d a8];rfl
  rw[b7];clear b2 a0 q1 q2 a7 a2 c0 c1 c2 c3 c4 c5 c6 h b7;generalize x.items[k]=it at*;gi_wp2
  refine⟨trivial,?_⟩;gi_at_call 61
  refine(CallsIn.inRound l (callsIn_wide.2 b9.out)).mono ?_;rintro e w' ⟨ra,rn,rc,rfl,e6,a4⟩;have f0:w'.cell? ⟨w.heap.size,0,none⟩=some (.slice ta (xy T x k).length tc):=by
   rw[sD (a:=⟨w.heap.size,0,none⟩) (a4.block _ (by show w.heap.size<_;omega))];exact e0
  have f3:w'.frozen? ⟨w.heap.size,0,none⟩=false:=by
   rw[I4 (a:=⟨w.heap.size,0,none⟩) (a4.block _ (by show w.heap.size<_;omega))];exact c8
  gi_wp2
  refine⟨⟨_,a3.out.set a4 (by rw[←c7.out];exact e6 trivial) ⟨a6 _ (by omega) (by omega),j0a _⟩ (by simp)⟩,fun b hb=>ql a4 _ _ b (by rcases hb with e|e|e<;>omega) (by rcases hb with e|e|e<;>omega),ka (by rw[QY];exact a4.size) (fun k h1 h2=>ql a4 _ _ k h2 (by omega))⟩
 case done=>
  rintro D W hD ⟨tv,a0⟩ hK;rw[b8]at hD;subst hD;have e0:=(a0.box (w.heap.size,tv) (by simp)).2.1;have e2:=(a0.box (w.heap.size+2,.slice none 0 0) (by simp)).2;have e3:=(a0.box (w.heap.size+3,.int .i64 0) (by simp)).2;have s2:=(a0.box (w.heap.size+2,.slice none 0 0) (by simp)).1;obtain⟨c9,e8⟩:=e2;obtain⟨d3,e9⟩:=e3;rw[Ft hN hk]at a0;obtain⟨ta,tc,b3⟩:=Y2 a0.pt;subst b3;have a3:=z4 a0;have HK:=z4 hK;clear a0 hK a7 a2 c0 c1 c2 c3 c4 c5 c6 h;gi_wp2
  have a9:(T++ [x]).length=T.length+1:=by simp
  rw[a9]at a3;have a1:∃W2,(W.setCell ⟨w.heap.size+2,0,none⟩ (.slice ta (T.length+1) tc)).setCell ⟨w.heap.size+3,0,none⟩ (.int .i64 0)=W2:=⟨_,rfl⟩
  obtain⟨W2,a1⟩:=a1;have d4:W2.heap[w.heap.size+7]? =some (.deferred (some [])):=by
   rw[←a1];exact((Below.heap_setCell _ ⟨w.heap.size+3,0,none⟩ _ (w.heap.size+7) (by show w.heap.size+7≠w.heap.size+3;omega)).trans (Below.heap_setCell _ ⟨w.heap.size+2,0,none⟩ _ (w.heap.size+7) (by show w.heap.size+7≠w.heap.size+2;omega))).trans HK.out
  have k2:(W2.putObj (w.heap.size+7) (.deferred none)).cell? ⟨w.heap.size+2,0,none⟩=some (.slice ta (T.length+1) tc):=by
   rw[kl _ _ (by omega),←a1,jd _ _ (by omega)];exact NB _ _ _ (by rw[c9];rfl)
  have k3:(W2.putObj (w.heap.size+7) (.deferred none)).cell? ⟨w.heap.size+3,0,none⟩=some (.int .i64 0):=by
   rw[kl _ _ (by omega),←a1];exact NB _ _ _ (by rw[jd _ _ (by omega),d3];rfl)
  have b5:Bi w M' w.heap.size [(w.heap.size+1,.string ⟨x.path.toArray⟩)] (.slice ta (T.length+1) tc) (T++ [x]) (W2.putObj (w.heap.size+7) (.deferred none)):=by
   have h1:Bi w M' w.heap.size [(w.heap.size+1,.string ⟨x.path.toArray⟩)] (.slice ta (T.length+1) tc) (T++ [x]) W:=⟨fun p hp=>a3.out.box p (by simp only[iT,lA,or_false]at hp⊢;rcases hp with e|e;exact .inl e;exact .inr (.inl e)),a3.out.pt,a3.out.below⟩
   rw[←a1];refine Bi.step (Z:=fun b=>b=w.heap.size+2∨b=w.heap.size+3) h1 ((((zf.refl _ W).setCell (p:=⟨w.heap.size+2,0,none⟩) (.inl (.inl rfl)) _)).setCell (p:=⟨w.heap.size+3,0,none⟩) (.inl (.inr rfl)) _) ?_|>.step (Qd _ (w.heap.size+7) _) ?_
   ·rintro b (rfl|rfl)
    ·exact⟨a6 _ (by omega) (by omega),by omega,fun p hp=>by simp only[iT,lA,or_false]at hp;rcases hp with rfl|rfl<;>simp⟩
    ·exact⟨a6 _ (by omega) (by omega),by omega,fun p hp=>by simp only[iT,lA,or_false]at hp;rcases hp with rfl|rfl<;>simp⟩
   ·rintro b rfl
    exact⟨a6 _ (by omega) (by omega),by omega,fun p hp=>by simp only[iT,lA,or_false]at hp;rcases hp with rfl|rfl<;>simp<;>omega⟩
  rw[a1];refine⟨by simp,.inl ⟨_,_,rfl,run_takeDeferred d4,?_⟩⟩;generalize W2.putObj (w.heap.size+7) (.deferred none)=W3 at*;have k2:W3.cell? ⟨w.heap.size+1+1,0,none⟩=some (.slice ta (T.length+1) tc):=k2;have k3:W3.cell? ⟨w.heap.size+1+1+1,0,none⟩=some (.int .i64 0):=k3;refine⟨.tuple #[.slice ta (T.length+1) tc,.int .i64 0],by simp[results,Tryz.results242,go_sem,k2,k3],?_⟩;exact⟨ta,T.length+1,tc,rfl,b5.pt.step (zf.refl (fun _=>False) _) (fun _ e=>e.elim) (fun b hb=> .inl (d8 b hb)),b5.below⟩
end
theorem Ky:∀(l:List UInt8) (a0:Nat),(∀c∈l,48≤c.toNat∧c.toNat≤57)→NI a0 l=some (l.foldl (fun a c=>10*a+(c.toNat-48)) a0)
 |[],a0,_=>rfl
 |c::l,a0,h=>by
  have hc:=h c (by simp);unfold NI Lib.digitVal;rw[if_pos hc];show NI (a0*10+(c.toNat-48)) l=_;rw[Ky l _ fun z hz=>h z (by simp[hz]),List.foldl_cons,Nat.mul_comm]
theorem Jd (u:Nat):NJ (rG u)=some u:=by
 obtain⟨h1,h2,h3⟩:=ff u;unfold NJ;rw[if_neg (by simpa using h3),Ky _ _ h1];exact congrArg some h2
theorem Fu (n:Int):NK (nJ n)=some n:=by
 unfold nJ;split
 ·rename_i hn
  unfold NK;simp only[beq_self_eq_true,if_true];rw[Jd];show some (-(n.natAbs:Int))=some n;congr 1;omega
 ·rename_i hn
  have hd:=Jd n.toNat;obtain⟨h1,_,h3⟩:=ff n.toNat;match hl:rG n.toNat,h3 with
  |b::r,_=>
   rw[hl]at hd h1;have hb:=h1 b (by simp);have e1:(b==45)=false:=by rw[beq_eq_false_iff_ne];rintro rfl;simp at hb
   have e2:(b==43)=false:=by rw[beq_eq_false_iff_ne];rintro rfl;simp at hb
   unfold NK;simp only[e1,e2,hd,Bool.false_eq_true,if_false];show some ((n.toNat:Nat):Int)=some n;congr 1;omega
def dP (w:eX)(M:Nat→Prop)(t:List R.Leaf)(e:Ending)(w' :eX):Prop:=∃va vn vc,e= .returned (.tuple #[.slice va vn vc,.int .i64 0])∧PT w' M (.slice va vn vc) t∧tH w.heap.size w w'
theorem BQ {T:List R.Leaf}{x:R.Leaf}(hN:Xt T x)(v:eB)(w:eX)(M:Nat→Prop)(hM:∀b,M b→b<w.heap.size)(h:PT w M v T)(c:UInt8)(r:List UInt8)(hw:R.written x=c::r):
  wH sU 212 #[v,.string ⟨x.path.toArray⟩,.int .u8 (c.toNat:Int),.string ⟨r.toArray⟩] w (dP w M (T++ [x])):=by
 obtain⟨va,vc,rfl⟩:=Y2 h;have b4:=Y7 _ hN.leaf.path;unfold R.written at hw;rcases hN.leaf.kinds with hk|hk|hk
 ·rw[if_pos hk]at hw
  obtain⟨rfl,rfl⟩:=List.cons.inj hw;have b3:(nJ x.n).length≤11:=by
   have:=hN.leaf.lo;have:=hN.leaf.hi;unfold nJ;split
   ·have:=UT 9 x.n.natAbs (by omega)
    simp only[nM];omega
   ·have:=UT 9 x.n.toNat (by omega)
    omega
  have a8:=fun W=>Tryz.strconv_Atoi ⟨(nJ x.n).toArray⟩ x.n (by simp[DQ];omega) (Fu x.n) W
  have a2:=fun(W:eX) (hW:tH w.heap.size w W)=>Bb (.slice va T.length vc) T x.path x.n W M (fun b hb=>j0b (hM b hb) hW.size) (h.below hW) hN.ok hN.leaf.path (by have:=hN.leaf.hi;omega) (by have:=hN.leaf.lo;omega)
  rw[hN.add hk]at a2;have a1:=hN.set (z:=x) rfl hN.leaf.nz;have HA:=z4 a8;have HD:=z4 a2;have a4:=z4 a1;clear a8 a2 a1;generalize x.n=xn at*;generalize nJ xn=dg at*;go_enter NL,NM;go_wp2_with fail
  refine(HA.out _).mono ?_;rintro e W1 ⟨rfl,⟨tt,b1⟩⟩;have a5:tH w.heap.size w W1:=by rw[b1];exact Lib.bytesWorld_below _ _ _
  have b2:=z4 (HD.out W1 a5);have a7:=z4 a5;clear b1 a5 HD HA;go_wp2_with fail
  refine b2.out.mono ?_;rintro e W2 ⟨ra,rn,rc,rfl,a0,a3⟩;replace a0:=a0 rfl;rw[a4.out]at a0;go_wp2;go_ret2;exact⟨ra,rn,rc,rfl,a0,a7.out.trans (a3.mono a7.out.size)⟩
 ·rw[if_neg (by rw[hk];decide),if_pos hk]at hw
  obtain⟨rfl,rfl⟩:=List.cons.inj hw;have a6:=C1 (.slice va T.length vc) T x.path x.text w M hM h hN.ok hN.leaf.path (by have:=Zs _ hN.leaf.text;unfold maxLen;omega);rw[hN.note hk]at a6;have a1:=hN.set (z:=x) rfl hN.leaf.nz;have HD:=z4 a6;have a4:=z4 a1;clear a6 a1;go_enter NL,NM;go_wp2_with fail
  refine HD.out.mono ?_;rintro e W2 ⟨ra,rn,rc,rfl,a0,a3⟩;replace a0:=a0 rfl;rw[a4.out]at a0;go_wp2;go_ret2;exact⟨ra,rn,rc,rfl,a0,a3⟩
 ·rw[if_neg (by rw[hk];decide),if_neg (by rw[hk];decide)]at hw
  obtain⟨rfl,rfl⟩:=List.cons.inj hw;have a9:=Fc hN hk (.slice va T.length vc) w M hM h;have HD:=z4 a9;clear a9;generalize R.joinI x.items=ji at*;go_enter NL,NM;go_wp2_with fail
  refine HD.out.mono ?_;rintro e W2 ⟨ra,rn,rc,rfl,a0,a3⟩;go_wp2;go_ret2;exact⟨ra,rn,rc,rfl,a0,a3⟩
section
attribute [local go_sem] Oper.semAt_some
theorem Ua {F:Fence}{n:Nat}{P:Program}{ops:Array Oper}{Q:Exit→Act→eX→Prop}(l:Nat)(a0:F.round=none)(hd:∀(j:Nat) (o:Oper),ops[j]? =some o→∀c,o.op≠ .defer c){i:Nat}{K:Act→eX→Prop}{a:Act}{w:eX}(h:wpOpIn F n P ops Q i K a w):wpOpIn (F.inRound l) n P ops Q i K a w:=by
 unfold wpOpIn at h⊢;split
 ·rename_i e;rw[e]at h;exact h
 ·rename_i o ho
  simp only[ho]at h;split
  ·rename_i hw
   simp only[hw,if_true]at h;unfold Oper.wpIn at h⊢;refine⟨h.1,?_⟩;have h2:=h.2;rw[a0,Oper.semAt_none]at h2;rw[Oper.semAt_eq _ _ _ (hd i o ho)];exact h2
  ·rename_i hw
   simp only[hw]at h;exact h
theorem QX {F:Fence}{n:Nat}{P:Program}{ops:Array Oper}{Q:Exit→Act→eX→Prop}{md:Region.Mode}(l:Nat)(a2:F.round=none)(hd:∀(j:Nat) (o:Oper),ops[j]? =some o→∀c,o.op≠ .defer c):∀(a1:Nat) (a0:Array Bool) (a:Act) (w:eX),wpAnyIn F n P md ops Q a1 a0 a w→wpAnyIn (F.inRound l) n P md ops Q a1 a0 a w
 |0,_,_,_,h=>h
 |a1+1,a0,a,w,h=>⟨h.1,fun i hi=>wpOpIn_mono (fun a' w' x=>QX l a2 hd a1 _ a' w' x) (Ua l a2 hd (h.2 i hi))⟩
theorem bR (p u:List UInt8)(h:∀c∈p,c≠32):NN (p++32::u) [32]=(p,u,true):=by
 have hi:Lib.index (p++32::u) [32]=(p.length:Int):=by
  refine Lib.index_first (by simp) ?_ fun j hj=> ?_
  ·rw[Lib.occAt_iff_take _ _ _ (by simp)]
   simp
  ·rw[Bool.eq_false_iff]
   intro e;have:=Lib.occAt_head rfl e;rw[List.getElem?_append_left hj,j0d hj,Option.some.injEq]at this;exact h _ (j0c hj) this
 unfold NN;rw[hi,if_pos (by omega)];simp
theorem FK (a:List UInt8):NO (a++ [10]) [10]=a:=by
 unfold NO Lib.hasSuffix;rw[if_pos (by rw[List.isSuffixOf_iff_suffix];exact List.suffix_append _ _)];simp
theorem di (w:eX)(o0 o1 o2 o3:Obj):((((w.alloc o0).alloc o1).alloc o2).alloc o3).heap=w.heap++ #[o0,o1,o2,o3]:=by
 simp only[NE];apply NF;simp only[NG,NH,sM,mJ,nV]
theorem be (W:eX)(M:Nat→Prop):PT W M (.slice none 0 0) []:=⟨[],rfl,⟨none,0,rfl,by simp,by simp[maxLen],fun h=>absurd h (by simp)⟩,by simp⟩
theorem CR (l:List UInt8)(w:eX):
  wH sU 209 #[.string ⟨l.toArray⟩] w fun e w' =>e= .returned (.func (.func 237) #[] #[.pointer (some ⟨w.heap.size,0,none⟩)])∧w' =w.alloc (.cells #[.string ⟨l.toArray⟩] 9):=by
 go_enter Tryz.func209,Tryz.ntmps209;go_wp2;go_ret;exact⟨rfl,rfl⟩
theorem Ve (t:List R.Leaf):(t.map R.line).flatten=R.Written t:=by
 unfold R.Written;rw[List.flatMap_def]
theorem Gi {t:List R.Leaf}(ht:OkT t)(w:eX)(M:Nat→Prop)(hM:∀b,M b→b<w.heap.size)(hG:Zp w):
  wH sU 159 #[.string ⟨(R.Written t).toArray⟩] w fun e w' =>∃va vn vc,e= .returned (.tuple #[.slice va vn vc,.bool true])∧PT w' M (.slice va vn vc) t∧tH w.heap.size w w' :=by
 refine(callsIn_wide (n:=3)).1 ?_;refine callsIn_of_wp_marks Tryz.func159 rfl trivial ?_ rfl;simp only[Tryz.ntmps159,tQ,nM,pC,tR,tS,tT,tU,tV,tX,nV,mJ];have b6:=z4 (CR (R.Written t));obtain⟨tx,b1⟩:∃tx,tx=R.Written t:=⟨_,rfl⟩
 rw[←b1]at b6;rw[←b1];have a8:=z4 b1;clear b1;gi_wp2_with (refine⟨trivial,?_⟩;gi_at_call 209;refine(callsIn_wide.2 (b6.out _)).mono ?_;rintro e w' ⟨rfl,rfl⟩)
 obtain⟨V,hV⟩:∃V,((((w.alloc (.cells #[.slice none 0 0] 93)).alloc (.cells #[.bool false] 4)).alloc (.cells #[.slice none 0 0] 93)).alloc (.cells #[.string ⟨tx.toArray⟩] 9))=V:=⟨_,rfl⟩
 rw[hV];have hh:V.heap=w.heap++ #[.cells #[.slice none 0 0] 93,.cells #[.bool false] 4,.cells #[.slice none 0 0] 93,.cells #[.string ⟨tx.toArray⟩] 9]:=by
  rw[←hV];exact di w _ _ _ _
 have g2:tH w.heap.size w V:=by
  rw[←hV];exact(((((j0g _ w).alloc (j0a _) _).alloc (by simp) _).alloc (by simp;omega) _).alloc (by simp;omega) _)
 have f3:V.heap.size=w.heap.size+4:=by rw[hh];simp
 have c0:=ZU (V:=V) (b:=w.heap.size) (v:= .slice none 0 0) (t:=93) (by rw[hh];simp);have c1:=ZU (V:=V) (b:=w.heap.size+1) (v:= .bool false) (t:=4) (by rw[hh];simp);have c2:=ZU (V:=V) (b:=w.heap.size+2) (v:= .slice none 0 0) (t:=93) (by rw[hh];simp);have c3:=ZU (V:=V) (b:=w.heap.size+3) (v:= .string ⟨tx.toArray⟩) (t:=9) (by rw[hh];simp);clear hV hh b6;obtain⟨M',a9⟩:∃M' :Nat→Prop,M' =fun b=>M b∨(w.heap.size≤b∧b<w.heap.size+6):=⟨_,rfl⟩
 have a5:∀b,w.heap.size≤b→b<w.heap.size+6→M' b:=fun b h1 h2=>by rw[a9];exact .inr ⟨h1,h2⟩
 have g0:∀b,M' b→b<w.heap.size+6:=fun b hb=>by
  rw[a9]at hb;rcases hb with hb|hb
  ·have:=hM b hb;omega
  ·exact hb.2
 have g1:∀b,M b→M' b:=fun b hb=>by rw[a9];exact .inl hb
 clear a9;have f9:∀y∈t.map R.line,∃u,y=u++ [10]∧∀z∈u,z≠10:=by
  intro y hy;obtain⟨x,hx,rfl⟩:=rR.1 hy;have e9:=ht.ok x hx;refine⟨x.path++32::R.written x,by simp[R.line],fun z hz=> ?_⟩;rcases List.mem_append.1 hz with hz|hz
  ·exact(e9.no32 z hz).2
  ·rcases iT.1 hz with rfl|hz
   ·decide
   ·exact e9.no10 z hz
 have i2:tx.length≤216000:=by rw[a8.out];exact ht.len
 rw[a8.out,←Ve]at c3;have a2:=G9 (L:=t.map R.line) f9 (by rw[Ve,←a8.out];omega) (w.heap.size+3) V c3.1 c3.2 2 (by omega);rw[aN]at a2;have b7:Bi w M' (w.heap.size+2) [(w.heap.size,.slice none 0 0),(w.heap.size+1,.bool false)] (.slice none 0 0) (t.take 0) V:=by
  refine⟨fun p hp=> ?_,?_,g2⟩
  ·simp only[iT,lA,or_false]at hp
   rcases hp with rfl|rfl|rfl
   ·exact⟨by show _+2<_;omega,c2⟩
   ·exact⟨by show _<_;omega,c0⟩
   ·exact⟨by show _+1<_;omega,c1⟩
  ·rw[ME]
   exact be V M'
 refine JP rfl (by omega) (gf:=237) (lb:= #[.pointer (some ⟨w.heap.size+3,0,none⟩)]) rfl trivial (enters_of NA (by kernel_rfl) rfl) a2 (by omega) (fun b hb=>by omega) (fun _=>rfl)
  (fun j W=>∃tv,Bi w M' (w.heap.size+2) [(w.heap.size,.slice none 0 0),(w.heap.size+1,.bool false)] tv (t.take j) W)
  (Bi.each ⟨_,b7⟩ (fun b hb=>⟨a5 b (by omega) (by omega),by omega⟩) (fun b hb=>by simp only[DM,H3,iT,lA,or_false]at hb;omega))
  (fun j=>{tmps:= #[.string ⟨tx.toArray⟩,lS,.pointer (some ⟨w.heap.size,0,none⟩),.pointer (some ⟨w.heap.size+1,0,none⟩),.pointer (some ⟨w.heap.size+2,0,none⟩),.string ⟨((t.map R.line)[j]?.getD []).toArray⟩,lS,lS,lS,lS,.string ⟨tx.toArray⟩,.func (.func 237) #[] #[.pointer (some ⟨w.heap.size+3,0,none⟩)],.string ⟨((t.map R.line)[j]?.getD []).toArray⟩,lS,lS,lS,lS,lS,lS,lS,lS,lS,lS,lS,lS,lS,lS,lS,lS,lS,lS,lS,lS,lS,lS,lS,lS,lS,lS,lS,lS,lS,lS,lS],defers:=[]}) ?assign ?body ?done
 case assign=>
  intro l k W K hK;simp only[Q1];generalize((t.map R.line)[k]?.getD [])=pc at*;gi_wp2
  exact hK
 case body=>
  rintro l k W b8 g7 ⟨tv,a0⟩;have e0:=(a0.box (w.heap.size+2,tv) (by simp)).2.1;have d6:=(a0.box (w.heap.size+2,tv) (by simp)).2.2;rw[f3]at g7;have hN:=dA ht k b8;obtain⟨ta,tc,c7⟩:=Y2 a0.pt;subst c7;have e8:(t.map R.line)[k]?.getD []=R.line t[k]:=by rw[List.getElem?_map,j0d b8];rfl
  rw[e8];have f4:t.take (k+1)=t.take k++ [t[k]]:=nN b8;have f6:=z4 f4;have a4:=z4 a0;obtain⟨mx,a6⟩:=(hG.below a0.below).mx;clear e8 f4 a0 b7 a2 c0 c1 c2 c3;generalize t[k]=x at*;generalize t.take k=T at*;have g9:=R.line_length x;have c6:R.line x=(x.path++32::R.written x)++ [10]:=by simp[R.line]
  have b9:=Oe hN.leaf;obtain⟨c,r,hw⟩:∃c r,R.written x=c::r:=by
   unfold R.written;split
   ·exact⟨_,_,rfl⟩
   ·split<;>exact⟨_,_,rfl⟩
  have f5:=z4 (fun(W2:eX) (a1:tH W.heap.size W W2)=>BQ hN (.slice ta T.length tc) W2 M' (fun b hb=>by have:=g0 b hb;have:=a1.size;omega) (a4.out.pt.below a1) c r hw);have d5:Hid (∀W:eX,wH sU 211 #[.string ⟨(R.line x).toArray⟩,.string ⟨#[10]⟩] W fun e w' =>e= .returned (.string ⟨(x.path++32::c::r).toArray⟩)∧w' =W):=fun W=>by
   have:=Tryz.strings_TrimSuffix ⟨(R.line x).toArray⟩ ⟨#[10]⟩ W (by simp[DQ];omega);rw[show NO (tD (R.line x).toArray).data.toList (tD #[10]).data.toList=x.path++32::c::r by rw[←hw];show NO (R.line x) [10]=_;rw[c6,FK]]at this;exact this
  have d3:Hid (∀(W2:eX) (a1:tH W.heap.size W W2),wH sU 210 #[.string ⟨(x.path++32::c::r).toArray⟩,.string ⟨#[32]⟩] W2 fun e w' =>e= .returned (.tuple #[.string ⟨x.path.toArray⟩,.string ⟨(c::r).toArray⟩,.bool true])∧tH W.heap.size W w'):=fun W2 a1=>by
   have h0:W2.cell? ⟨0,0,none⟩=some (.int .i64 mx):=by
    rw[sD (a:=⟨0,0,none⟩) (a1.block 0 (by omega))];exact a6
   have:=Tryz.strings_Cut ⟨(x.path++32::c::r).toArray⟩ ⟨#[32]⟩ mx W2 (by rw[c6,hw]at b9;simp only[nL,nM]at b9;simp[DQ];omega) h0;rw[show NN (tD (x.path++32::c::r).toArray).data.toList (tD #[32]).data.toList=(x.path,c::r,true)from bR _ _ fun z hz=>(hN.leaf.no32 z hz).1]at this;refine this.mono fun e w' ⟨h1,n,h2⟩=>⟨h1,?_⟩
   rw[h2];exact⟨a1.os,a1.tape,a1.output,a1.size,a1.block⟩
  have d4:Hid (∀(W2:eX) (a1:tH W.heap.size W W2),wH sU 92 #[.string ⟨x.path.toArray⟩] W2 fun e w' =>e= .returned (.bool true)∧tH W.heap.size W w'):=fun W2 a1=>by
   have h0:W2.cell? ⟨0,0,none⟩=some (.int .i64 mx):=by
    rw[sD (a:=⟨0,0,none⟩) (a1.block 0 (by omega))];exact a6
   refine(OA x.path W2 (by have:=Y7 _ hN.leaf.path;unfold maxLen;omega) mx h0).mono fun e w' h=> ?_
   rw[hN.leaf.path]at h;exact⟨h.1,a1.trans (h.2.mono a1.size)⟩
  dsimp only at e0 d6⊢;have g8:(tD (R.line x).toArray).size=(R.line x).length:=by simp[DQ]
  clear g9 c6 b9 a6 hw g8;generalize R.line x=lx at*;gi_wp2
  refine⟨trivial,?_⟩;gi_at_call 211
  refine(CallsIn.inRound l (callsIn_wide.2 (d5.out W))).mono ?_;rintro e w' ⟨rfl,c8⟩;replace c8 :=c8.symm;subst c8;gi_wp2
  refine⟨trivial,?_⟩;gi_at_call 210
  refine(CallsIn.inRound l (callsIn_wide.2 (d3.out W (j0g _ _)))).mono ?_;rintro e W1 ⟨rfl,e6⟩;have c9:=z4 e6;clear e6 d5 d3;gi_wp2
  refine⟨trivial,?_⟩;gi_at_call 92
  refine(CallsIn.inRound l (callsIn_wide.2 (d4.out W1 c9.out))).mono ?_;rintro e W2 ⟨rfl,a3⟩;have b2:=z4 a3;clear a3 c9 d4;gi_wp2
  have e7:W2.cell? ⟨w.heap.size+2,0,none⟩=some (.slice ta T.length tc):=by
   rw[sD (a:=⟨w.heap.size+2,0,none⟩) (b2.out.block _ (by show w.heap.size+2<_;omega))];exact e0
  have g4:=J8 c r;have a6:Tryz.prog.follows .mixedOrders=true:=by kernel_rfl
  have g5:(tD (c::r).toArray).size=r.length+1:=by simp[DQ]
  have b4:Hid (∀(X:eX) (ra:Option Addr) (rn rc:Nat),PT X M' (.slice ra rn rc) (T++ [x])→tH W.heap.size W X→X.cell? ⟨w.heap.size+2,0,none⟩=some (.slice ta T.length tc)∧X.frozen? ⟨w.heap.size+2,0,none⟩=false):=fun X ra rn rc _ hX=>by
   rw[sD (a:=⟨w.heap.size+2,0,none⟩) (hX.block _ (by show w.heap.size+2<_;omega)),I4 (a:=⟨w.heap.size+2,0,none⟩) (hX.block _ (by show w.heap.size+2<_;omega))];exact⟨e0,d6⟩
  refine wpIn_region_any a6 (QX l rfl (by
   intro j o hj c;have:j<12∨12≤j:=by omega
   rcases this with h|h
   ·rcases(by omega:j=0∨j=1∨j=2∨j=3∨j=4∨j=5∨j=6∨j=7∨j=8∨j=9∨j=10∨j=11)with rfl|rfl|rfl|rfl|rfl|rfl|rfl|rfl|rfl|rfl|rfl|rfl<;>(injection hj with hj;subst hj;intro e;cases e)
   ·rw[Array.getElem?_eq_none (by simpa using h)]at hj
    cases hj) _ _ _ _ ?_)
  simp only[tQ,nM,pC,tR,Nat.zero_add];have e2:tH W.heap.size W {W2 with drawn:=W2.drawn+1}:=b2.out.drew;have g3 :({W2 with drawn:=W2.drawn+1}:eX).cell? ⟨w.heap.size+2,0,none⟩=some (.slice ta T.length tc):=e7;have b3:=z4 e2;have b5:(1:Int)≤(r.length:Int)+1:=by omega
  clear e2 e7 b2;generalize({W2 with drawn:=W2.drawn+1}:eX)=W4 at*;refine wpAnyIn_take (i:=1) (v:= ?_) rfl rfl (by kernel_rfl) (by kernel_rfl) (by kernel_rfl) (fun _ _ _ h=>h) ⟨Or.inl ⟨by rfl,?h1⟩,fun _=>rfl⟩ ?_
  case h1=>
   intro w;go_simp
   try rfl
  try walk_nrm
  refine wpAnyIn_take (i:=2) (v:= ?_) rfl rfl (by kernel_rfl) (by kernel_rfl) (by kernel_rfl) (fun _ _ _ h=>h) ⟨Or.inl ⟨by rfl,?h2⟩,fun _=>rfl⟩ ?_
  case h2=>
   intro w;go_simp
   try rfl
  try walk_nrm
  refine wpAnyIn_take (i:=3) (v:= ?_) rfl rfl (by kernel_rfl) (by kernel_rfl) (by kernel_rfl) (fun _ _ _ h=>h) ⟨Or.inl ⟨by rfl,?h3⟩,fun _=>rfl⟩ ?_
  case h3=>
   intro w;go_simp
   try rfl
  try walk_nrm
  refine wpAnyIn_take (i:=4) (v:= ?_) rfl rfl (by kernel_rfl) (by kernel_rfl) (by kernel_rfl) (fun _ _ _ h=>h) ⟨Or.inl ⟨by rfl,?h4⟩,fun _=>rfl⟩ ?_
  case h4=>
   intro w;go_simp
   try rfl
  try walk_nrm
  refine wpAnyIn_take (i:=5) (v:= ?_) rfl rfl (by kernel_rfl) (by kernel_rfl) (by kernel_rfl) (fun _ _ _ h=>h) ⟨Or.inl ⟨by rfl,?h5⟩,fun _=>rfl⟩ ?_
  case h5=>
   intro w;go_simp
   try rfl
  try walk_nrm
  refine wpAnyIn_ready (rs:=[0]) (by kernel_rfl) (by simp) ?_;refine AllReadyIn.cons rfl (fun K hK=> ?_) AllReadyIn.nil;go_simp
  refine hK _ _ ?_;clear hK K;try walk_nrm
  refine wpAnyIn_ready (rs:=[6]) (by kernel_rfl) (by simp) ?_;refine AllReadyIn.cons rfl (fun K hK=> ?_) AllReadyIn.nil;go_simp
  refine⟨trivial,?_⟩;refine(callsIn_wide.2 (f5.out W4 b3.out)).mono ?_;rintro e W3 ⟨ra,rn,rc,rfl,f0,g6⟩;have a7:=b3.out.trans (g6.mono b3.out.size);obtain⟨i0,i1⟩:=b4.out W3 ra rn rc f0 a7;dsimp only;refine hK _ _ ?_;clear hK K;try walk_nrm
  refine wpAnyIn_take (i:=7) (v:= ?_) rfl rfl (by kernel_rfl) (by kernel_rfl) (by kernel_rfl) (fun _ _ _ h=>h) ⟨Or.inl ⟨by rfl,?h7⟩,fun _=>rfl⟩ ?_
  case h7=>
   intro w;go_simp
   try rfl
  try walk_nrm
  refine wpAnyIn_take (i:=8) (v:= ?_) rfl rfl (by kernel_rfl) (by kernel_rfl) (by kernel_rfl) (fun _ _ _ h=>h) ⟨Or.inl ⟨by rfl,?h8⟩,fun _=>rfl⟩ ?_
  case h8=>
   intro w;go_simp
   try rfl
  try walk_nrm
  refine wpAnyIn_take (i:=9) (v:= ?_) rfl rfl (by kernel_rfl) (by kernel_rfl) (by kernel_rfl) (fun _ _ _ h=>h) ⟨Or.inl ⟨by rfl,?h9⟩,fun _=>rfl⟩ ?_
  case h9=>
   intro w;go_simp
   try rfl
  try walk_nrm
  refine wpAnyIn_ready (rs:=[10]) (by kernel_rfl) (by simp) ?_;refine AllReadyIn.cons rfl (fun K hK=> ?_) AllReadyIn.nil;go_simp
  refine hK _ _ ?_;clear hK K;try walk_nrm
  refine wpAnyIn_take (i:=11) (v:= ?_) rfl rfl (by kernel_rfl) (by kernel_rfl) (by kernel_rfl) (fun _ _ _ h=>h) ⟨Or.inl ⟨by rfl,?h11⟩,fun _=>rfl⟩ ?_
  case h11=>
   intro w;go_simp
   try rfl
  try walk_nrm
  refine wpAnyIn_done (by kernel_rfl) ?_ _;simp only[Exit.then];gi_wp2
  refine⟨⟨_,a4.out.set a7 (by rw[f6.out];exact f0) ⟨a5 _ (by omega) (by omega),by omega⟩ (by simp)⟩,fun b hb=>ql a7 _ _ b (by omega) (by omega),ka (by rw[QY];exact a7.size) (fun k h1 h2=>ql a7 _ _ k h2 (by omega))⟩
 case done=>
  rintro D W hD ⟨tv,a0⟩ hK;rw[f3]at hD;subst hD;rw[aU]at a0;have e0:=(a0.box (w.heap.size+2,tv) (by simp)).2.1;obtain⟨s0,d7,d8⟩:=a0.box (w.heap.size,.slice none 0 0) (by simp);obtain⟨s1,d9,e1⟩:=a0.box (w.heap.size+1,.bool false) (by simp);obtain⟨ta,tc,c7⟩:=Y2 a0.pt;subst c7;dsimp only at e0 d7 d8 d9 e1 s0 s1;have f7:Hid (∀(X:eX),tH W.heap.size W X→wH sU 50 #[.slice ta t.length tc] X fun e w' =>e= .returned (.string ⟨tx.toArray⟩)∧tH W.heap.size W w' ∧w'.cell? ⟨w.heap.size+2,0,none⟩=some (.slice ta t.length tc)∧w'.cell? ⟨w.heap.size,0,none⟩=some (.slice none 0 0)∧w'.frozen? ⟨w.heap.size,0,none⟩=false∧w'.cell? ⟨w.heap.size+1,0,none⟩=some (.bool false)∧w'.frozen? ⟨w.heap.size+1,0,none⟩=false):=fun X hX=>by
   have:=YG (.slice ta t.length tc) t X M' (a0.pt.below hX) ht.ok (by have:=ht.few;omega) ((hG.below a0.below).below hX);rw[←a8.out]at this;refine this.mono fun e w' ⟨h1,h2⟩=> ?_
   have hb:=hX.trans (h2.mono hX.size);have s2:=(a0.box (w.heap.size+2,.slice ta t.length tc) (by simp)).1;refine⟨h1,hb,?_,?_,?_,?_,?_⟩
   ·rw[sD (a:=⟨w.heap.size+2,0,none⟩) (hb.block _ s2)];exact e0
   ·rw[sD (a:=⟨w.heap.size,0,none⟩) (hb.block _ s0)];exact d7
   ·rw[I4 (a:=⟨w.heap.size,0,none⟩) (hb.block _ s0)];exact d8
   ·rw[sD (a:=⟨w.heap.size+1,0,none⟩) (hb.block _ s1)];exact d9
   ·rw[I4 (a:=⟨w.heap.size+1,0,none⟩) (hb.block _ s1)];exact e1
  have a4:=z4 a0;have HK:=z4 hK;clear a0 hK b7 a2 c0 c1 c2 c3;gi_wp2
  refine wpIn_mono (Q:=Exit.then (fun a' X=>a' ={tmps:= #[.string ⟨tx.toArray⟩,lS,.pointer (some ⟨w.heap.size,0,none⟩),.pointer (some ⟨w.heap.size+1,0,none⟩),.pointer (some ⟨w.heap.size+2,0,none⟩),lS,lS,lS,lS,lS,.string ⟨tx.toArray⟩,.func (.func 237) #[] #[.pointer (some ⟨w.heap.size+3,0,none⟩)],lS,lS,lS,lS,lS,lS,lS,lS,lS,lS,lS,lS,lS,lS,lS,lS,lS,lS,lS,lS,lS,lS,lS,lS,lS,lS,lS,.slice ta t.length tc,.slice ta t.length tc,.string ⟨tx.toArray⟩,.string ⟨tx.toArray⟩,.bool true],defers:=[{target:= .collected (w.heap.size+4),args:= #[]}]}∧∃W2,tH W.heap.size W W2∧X=(W2.setCell ⟨w.heap.size,0,none⟩ (.slice ta t.length tc)).setCell ⟨w.heap.size+1,0,none⟩ (.bool true)∧W2.cell? ⟨w.heap.size,0,none⟩=some (.slice none 0 0)∧W2.cell? ⟨w.heap.size+1,0,none⟩=some (.bool false)) (fun _ _ _=>False)) (wpIn_wide.2 ?_) ?_
  ·go_region_with (go_at_call 50;refine(f7.out _ (by first|exact(j0g _ _).drew|exact j0g _ _)).mono ?_;rintro e W2 ⟨rfl,a3,q0,q1,q2,q3,q4⟩)
   all_goals exact⟨rfl,W2,a3,rfl,q1,q3⟩
  ·intro e a' X h
   rcases e with _|_|_|_|_|_<;>try exact h.elim
   obtain⟨rfl,W2,a3,rfl,q1,q3⟩:=h;have f8:((W2.setCell ⟨w.heap.size,0,none⟩ (.slice ta t.length tc)).setCell ⟨w.heap.size+1,0,none⟩ (.bool true)).heap[w.heap.size+4]? =some (.deferred (some [])):=by
    exact(((Below.heap_setCell _ ⟨w.heap.size+1,0,none⟩ _ (w.heap.size+4) (by show w.heap.size+4≠w.heap.size+1;omega)).trans (Below.heap_setCell _ ⟨w.heap.size,0,none⟩ _ (w.heap.size+4) (by show w.heap.size+4≠w.heap.size;omega))).trans (a3.block _ (lE.1 HK.out).1)).trans HK.out
   have k2:(((W2.setCell ⟨w.heap.size,0,none⟩ (.slice ta t.length tc)).setCell ⟨w.heap.size+1,0,none⟩ (.bool true)).putObj (w.heap.size+4) (.deferred none)).cell? ⟨w.heap.size,0,none⟩=some (.slice ta t.length tc):=by
    rw[kl _ _ (by omega),jd _ _ (by omega)];exact NB _ _ _ (by rw[q1];rfl)
   have k3:(((W2.setCell ⟨w.heap.size,0,none⟩ (.slice ta t.length tc)).setCell ⟨w.heap.size+1,0,none⟩ (.bool true)).putObj (w.heap.size+4) (.deferred none)).cell? ⟨w.heap.size+1,0,none⟩=some (.bool true):=by
    rw[kl _ _ (by omega)];exact NB _ _ _ (by rw[jd _ _ (by omega),q3];rfl)
   have e3:Bi w M' (w.heap.size+2) [] (.slice ta t.length tc) t (((W2.setCell ⟨w.heap.size,0,none⟩ (.slice ta t.length tc)).setCell ⟨w.heap.size+1,0,none⟩ (.bool true)).putObj (w.heap.size+4) (.deferred none)):=by
    have h1:Bi w M' (w.heap.size+2) [] (.slice ta t.length tc) t W:=⟨fun p hp=>a4.out.box p (by simp only[iT,lA,or_false]at hp⊢;exact .inl hp),a4.out.pt,a4.out.below⟩
    have h2:=h1.step (zf.of_below (M:=fun _=>False) a3) fun b e=>e.elim
    refine Bi.step (Z:=fun b=>b=w.heap.size∨b=w.heap.size+1) h2 ((((zf.refl _ W2).setCell (p:=⟨w.heap.size,0,none⟩) (.inl (.inl rfl)) _)).setCell (p:=⟨w.heap.size+1,0,none⟩) (.inl (.inr rfl)) _) ?_|>.step (Qd _ (w.heap.size+4) _) ?_
    ·rintro b (rfl|rfl)
     ·exact⟨a5 _ (by omega) (by omega),by omega,fun p hp=>by simp only[iT,lA,or_false]at hp;rw[hp];simp⟩
     ·exact⟨a5 _ (by omega) (by omega),by omega,fun p hp=>by simp only[iT,lA,or_false]at hp;rw[hp];simp⟩
    ·rintro b rfl
     exact⟨a5 _ (by omega) (by omega),by omega,fun p hp=>by simp only[iT,lA,or_false]at hp;rw[hp];simp⟩
   gi_wp2
   refine⟨by simp,.inl ⟨_,_,rfl,run_takeDeferred f8,?_⟩⟩;generalize(((W2.setCell ⟨w.heap.size,0,none⟩ (.slice ta t.length tc)).setCell ⟨w.heap.size+1,0,none⟩ (.bool true)).putObj (w.heap.size+4) (.deferred none))=W3 at*;refine⟨.tuple #[.slice ta t.length tc,.bool true],by simp[results,Tryz.results159,go_sem,k2,k3],?_⟩;exact⟨ta,t.length,tc,rfl,e3.pt.step (zf.refl (fun _=>False) _) (fun _ e=>e.elim) (fun b hb=> .inl (g1 b hb)),e3.below⟩
end
def dQ (w:eX)(M:Nat→Prop)(c:R.Cm)(e:Ending)(w' :eX):Prop:=∃pa pc,e= .returned (.tuple #[.slice pa c.parents.length pc,.string ⟨(R.Written c.tree).toArray⟩,.bool true])∧Rd w' M (.slice pa c.parents.length pc) c.parents.length (Ym c.parents)∧tH w.heap.size w w'
theorem JC {w:eX}{M O:Nat→Prop}{B:Nat}{st:R.St}(h:PS w M O B st)(hM:∀b,M b→b<w.heap.size)(g8:st.cms.length≤60)(c:R.Cm)(hc:R.CmOk st c):
  wH sU 158 #[.pointer (some ⟨B,0,none⟩),.string ⟨(R.bodyC c).toArray⟩] w (dQ w M c):=by
 have d9:=hc.tree.len;have h2:=hc.two;have a5:=hc.par;have d7:=hc.nodup;obtain⟨np,a3⟩:∃np,np=c.parents.length:=⟨_,rfl⟩
 obtain⟨tx,b7⟩:∃tx,tx=R.Written c.tree:=⟨_,rfl⟩
 obtain⟨rs,a9⟩:∃rs,rs=c.parents.map nK++tx:=⟨_,rfl⟩
 have a1:R.bodyC c=nK np::rs:=by rw[a3,a9,b7];rfl
 have b6:rs.length=np+tx.length:=by rw[a9,nL,aN,a3]
 have d4:(nK np).toNat=np:=by rw[rH];omega
 have g2 :tx.length≤216000:=by rw[b7];exact d9
 have f0:=J8 (nK np) rs;have g9:(tD rs.toArray).extract np (np+tx.length)=⟨tx.toArray⟩:=by
  have:=QJ (c.parents.map nK) tx (np+tx.length) (by simp[a3]);rw[aN,←a3,←a9]at this;exact this
 have d6:∀(k p:Nat),c.parents[k]? =some p→∀hz:k<(tD rs.toArray).size,((tD rs.toArray)[k]'hz).toNat=p:=fun k p hp hz=>by
  obtain⟨hk,he⟩:=rD.1 hp;have i3:=a5 _ (lC hp);have e:(tD rs.toArray)[k]'hz=nK p:=by
   show rs.toArray[k]=_;subst a9;simp[List.getElem_append_left,List.getElem_map,hk,he]
  rw[e,rH];omega
 unfold dQ;rw[a1,←b7,←a3];have e8:=z4 h;have e6:=z4 d6;have c6:=z4 a5;have e7:=z4 d7;have c9:=z4 a3;have i5:(tD rs.toArray).size=np+tx.length:=by simp[DQ,b6]
 have g1:(tD (nK np::rs).toArray).size=np+tx.length+1:=by simp[DQ,b6]
 have g7:np≤2:=by omega
 rw[b6]at f0;clear hc h d6 a5 d7 a3 b7 a9 a1 b6 d9 h2;generalize(tD rs.toArray)=rb at*;go_enter Tryz.func158,Tryz.ntmps158;go_wp2;have b1:(1:Int)≤(np:Int)+(tx.length:Int)+1:=by omega
 have b2:¬(2:Int)<(np:Int):=by omega
 have b3:¬(np:Int)+(tx.length:Int)<(np:Int):=by omega
 have d5:∀hz:0<(tD (nK np::rs).toArray).size,((tD (nK np::rs).toArray)[0]'hz).toNat=np:=fun _=>d4
 generalize(tD (nK np::rs).toArray)=bb at*;have g4:0<bb.size:=by omega
 have e0:=d5 g4;clear d5 d4;go_region_with (fail)
 clear e0;go_wp2;have f3:Hid (∀(X:eX) (p:Nat),tH w.heap.size w X→(1≤p∧p≤st.cms.length)→wH sU 51 #[.pointer (some ⟨B,0,none⟩),.int .i64 (p:Int)] X fun e w' =>e= .returned (.bool true)∧w' =X):=fun X p hX hp=>by
  have:=ZX (e8.out.below hX) (p:Int);rw[decide_eq_true (by omega)]at this;exact this
 go_loopw [9,28] (fun pv iv wr=>∃(k:Nat) (la:Option Addr) (lc:Nat),k≤np∧iv= .int .i64 (k:Int)∧pv= .slice la k lc∧wr.ownsRow w.heap.size 3 1 (.slice la k lc) k (Ym (c.parents.take k))∧tH w.heap.size w wr) (fun _ iv _=>2-(intOf iv).toNat)
 case atStart=>exact⟨0,none,0,wB _,rfl,rfl,World.ownsRow_nil _ _ _ _,(j0g _ w).drew⟩
 case round=>
  obtain⟨k,la,lc,hk,rfl,rfl,a4,c7⟩:=hrel;have HO:=z4 a4;have HB:=z4 c7;obtain⟨_,_,g3,h0,f8,a2,a0⟩:=zh a4;injection g3 with e1 e2 e3
  subst e1 e3;unfold maxLen at f8;have i6:=c7.size;clear a4 c7;by_cases f9:k<np
  ·have f6:k<c.parents.length:=by rw[←c9.out];exact f9
   obtain⟨p,hp⟩:∃p,c.parents[k]? =some p:=⟨_,j0d f6⟩
   have f7:k<rb.size:=by omega
   have f4:=e6.out k p hp f7;have g0:=c6.out p (lC hp);have d8:Ym (c.parents.take (k+1))=Ym (c.parents.take k)++ [.int .i64 (p:Int)]:=by
    rw[NP,hp];simp[Ym]
   have d3:=z4 d8;have HP:=z4 hp;have HH:=z4 (f3.out wr p HB.out g0);have g5:(0:Int)≤(k:Int):=by omega
   have g6:(k:Int)<(np:Int)+(tx.length:Int):=by omega
   clear d8 hp;rcases(by omega:k=0∨k=1)with rfl|rfl
   ·go_wp2_with fail
    refine HH.out.mono ?_;rintro e W1 ⟨rfl,hw⟩;replace hw:=hw.symm;subst hw;go_wp2_with (at_builtin;go_loud (refine u_ wr rfl _ _ 39 rfl w.heap.size 3 (.int .i64 0) 1 8 wG qa rfl (by decide) HO.out _ rfl (by rfl) (by rfl) (by intro u hu;simp at hu;subst hu;rfl) (by unfold maxLen;omega) (by omega) (by omega) ?_))
    intro v' W2 ho a8;have a6:tH w.heap.size w W2:=HB.out.grown a8 HB.out.size (fun b e=>(HO.out.lt b e).1);obtain⟨b4,b5,c8,_⟩:=zh ho;subst c8;have b9:Hid (W2.ownsRow w.heap.size 3 1 (.slice b4 (1) b5) (1) (Ym (c.parents.take (0+1)))):=by
     show NQ _ _ _ _ _ _ _;rw[d3.out];exact ho
    have b8:=z4 a6;clear ho a8 a6 HO HB a0 a2;go_wp2;go_roundw
    case rel=>exact⟨1,b4,b5,by omega,rfl,rfl,b9.out,b8.out⟩
    case measure=>simp[intOf]
   ·obtain⟨q,hq⟩:∃q,c.parents[0]? =some q:=⟨_,j0d (by omega)⟩
    have i4:p≠q:=by
     intro e;subst e;obtain⟨i1,j1⟩:=rD.1 HP.out;obtain⟨i0,j0⟩:=rD.1 hq;have:=List.pairwise_iff_getElem.1 e7.out 0 1 i0 i1 (by omega);exact this (by rw[j0,j1])
    obtain⟨g,rfl,hg⟩:∃g,la=some ⟨g,0,none⟩∧wr.cell? ⟨g,0,none⟩=some (.int .i64 (q:Int)):=by
     cases la with
     |none=>have:=(a2 rfl).1;omega
     |some ad=>
      obtain⟨g,rfl,_,_,_,a7⟩:=a0 ad rfl;refine⟨g,rfl,a7 0 _ ?_⟩;simp[Ym,NP,hq]
    have i2:((p:Int)==(q:Int))=false:=by rw[beq_eq_false_iff_ne];omega
    go_wp2_with fail
    refine HH.out.mono ?_;rintro e W1 ⟨rfl,hw⟩;replace hw:=hw.symm;subst hw;go_wp2_with (at_builtin;go_loud (refine u_ wr rfl _ _ 39 rfl w.heap.size 3 (.int .i64 0) 1 8 wG qa rfl (by decide) HO.out _ rfl (by rfl) (by rfl) (by intro u hu;simp at hu;subst hu;rfl) (by unfold maxLen;omega) (by omega) (by omega) ?_))
    intro v' W2 ho a8;have a6:tH w.heap.size w W2:=HB.out.grown a8 HB.out.size (fun b e=>(HO.out.lt b e).1);obtain⟨b4,b5,c8,_⟩:=zh ho;subst c8;have b9:Hid (W2.ownsRow w.heap.size 3 1 (.slice b4 (2) b5) (2) (Ym (c.parents.take (1+1)))):=by
     show NQ _ _ _ _ _ _ _;rw[d3.out];exact ho
    have b8:=z4 a6;clear ho a8 a6 HO HB a0 a2;go_wp2;go_roundw
    case rel=>exact⟨2,b4,b5,by omega,rfl,rfl,b9.out,b8.out⟩
    case measure=>simp[intOf]
  ·have f5:k=np:=by omega
   subst f5;have e9:Hid (Rd wr M (.slice la k lc) k (Ym c.parents)):=by
    have:=Rd.of_owns HO.out hM;rw[show c.parents.take k=c.parents from List.take_of_length_le (by rw[←c9.out];omega)]at this;exact this
   go_wp2;go_region_with (fail)
   go_wp2;refine bodyPost_ret (v:= .tuple #[.slice la k lc,.string ⟨tx.toArray⟩,.bool true]) (by simp[results,Tryz.results158,go_sem]) rfl ?_;exact⟨la,lc,rfl,(e9.out:Rd wr M _ _ _),HB.out.drew⟩
structure FA (w:eX)(M O:Nat→Prop)(B:Nat)(st:R.St):Prop where
 ps:PS w M O B st
 inv:Inv st
 low:∀b,M b→b<w.heap.size
 glob:Zp w
 six:∀b,O b→6≤b
 pk:st.packed.length≤1000000000000
section
variable {w:eX}{M O:Nat→Prop}{B:Nat}{st:R.St}
theorem FA.below (h:FA w M O B st){W:eX}(hb:tH w.heap.size w W):FA W M O B st:=
 ⟨h.ps.below hb,h.inv,fun b hm=>j0b (h.low b hm) hb.size,h.glob.below hb,h.six,h.pk⟩
theorem J4 (h:FA w M O B st)(c:R.Cm)(hc:R.CmOk st c):
  wH sU 111 #[.pointer (some ⟨B,0,none⟩),.string ⟨(R.bodyC c).toArray⟩] w fun e w' =>e= .returned (.bool true)∧zx w w' M O B (R.keepC st c):=by
 obtain⟨ca,cc,c1,a7,a4⟩:=h.ps.cms1;unfold maxLen at a4;have a6:=hc.few;have a5:¬(60:Int)≤(st.cms.length:Int):=by omega
 have HP:=z4 (JC h.ps h.low (by omega) c hc);have HH:=z4 h;have HC:=z4 hc;generalize R.bodyC c=bd at*;clear h hc;go_enter Tryz.func111,Tryz.ntmps111;go_wp2_with fail
 refine HP.out.mono ?_;rintro e W1 ⟨pa,pc,rfl,hr,a1⟩;have HR:=z4 hr;have a2:=z4 a1;have HT:=z4 (Gi HC.out.tree W1 M (fun b hm=>j0b (HH.out.low b hm) a1.size) (HH.out.glob.below a1));clear hr a1 HP;generalize R.Written c.tree=tx at*;go_wp2_with fail
 refine HT.out.mono ?_;rintro e W2 ⟨ta,tn,tc,rfl,ht,a3⟩;have a0:=z4 (a2.out.trans (a3.mono a2.out.size));have HK:=z4 (BR (HH.out.ps.below a0.out) c pa pc ta tn tc ht (HR.out.kept (zf.of_below a3)) (fun b hm=>j0b (HH.out.low b hm) a0.out.size) HC.out.tree HC.out.two HC.out.few HH.out.pk (HH.out.glob.below a0.out) HH.out.six);clear ht a3 HT HR a2;generalize c.parents.length=pl at*;go_wp2_with fail
 refine HK.out.mono ?_;rintro e W3 ⟨rfl,hs⟩;have HS:=z4 (zx.after a0.out hs);clear hs HK;go_wp2;go_ret;exact⟨rfl,HS.out⟩
theorem jB (st:R.St)(name:List UInt8)(n:Nat):xC st name n=R.headR st name n:=by
 unfold xC R.headR;rfl
theorem UM (h:FA w M O B st)(name:List UInt8)(n:Nat)(hn:R.isName name=true)(hh:n≤st.cms.length)(hm:R.fnd st.brs name<st.brs.length∨st.brs.length<6):
  wH sU 112 #[.pointer (some ⟨B,0,none⟩),.string ⟨(nK n::name).toArray⟩] w fun e w' =>e= .returned (.bool true)∧zx w w' M O B (R.headR st name n):=by
 have a8:=h.inv.few;have b2:=ZN _ hn;have a2:(nK n).toNat=n:=by rw[rH];omega
 have a9:=J8 (nK n) name;have HN:Hid (∀W:eX,wH sU 53 #[.string ⟨name.toArray⟩] W fun e w' =>e= .returned (.bool true)∧w' =W):=fun W=>by
  have:=kW name W (by unfold maxLen;omega);rw[hn]at this;exact this
 have HC:Hid (∀W:eX,tH w.heap.size w W→1≤n→wH sU 51 #[.pointer (some ⟨B,0,none⟩),.int .i64 (n:Int)] W fun e w' =>e= .returned (.bool true)∧w' =W):=fun W hW h1=>by
  have:=ZX (h.ps.below hW) (n:Int);rw[decide_eq_true (by omega)]at this;exact this
 obtain⟨bv,cv,LB,LCm,hx⟩:=id h.ps;have HF:=z4 (fun(W:eX) (hW:tH w.heap.size w W)=>qv (hx.below hW) h.inv name);have a5:(R.fnd st.brs name<st.brs.length∧∃g,Zh LB st name=some ⟨g,0,none⟩)∨(¬R.fnd st.brs name<st.brs.length∧Zh LB st name=none∧grown st name n=(0,R.headR st name n)):=by
  by_cases hf:R.fnd st.brs name<st.brs.length
  ·obtain⟨hl,he,_⟩:=Zy hx name hf
   exact .inl ⟨hf,_,he⟩
  ·refine .inr ⟨hf,if_neg hf,?_⟩
   have h6:=hm.resolve_left hf;unfold grown R.headR;rw[if_neg (by unfold R.fndI;rw[if_neg hf];decide),if_neg (by omega),if_neg hf]
 have HP:=z4 (fun(W:eX) (hW:tH w.heap.size w W)=>f5 B st name n W M O (h.ps.below hW) h.inv hh (by omega) h.pk);have HG:=z4 (fun(W:eX) (hW:tH w.heap.size w W)=>Gj B st name n W M O (h.ps.below hW) h.inv hh (by omega) h.pk);have b3:(tD (nK n::name).toArray).size=name.length+1:=by simp[DQ]
 have a4:∀hz:0<(tD (nK n::name).toArray).size,((tD (nK n::name).toArray)[0]'hz).toNat=n:=fun _=>a2
 clear a2 hn hx;go_enter Tryz.func112,Tryz.ntmps112;go_wp2;generalize(tD (nK n::name).toArray)=bb at*;have a7:0<bb.size:=by omega
 have e0:=a4 a7;have b1:(1:Int)≤(name.length:Int)+1:=by omega
 clear a4;go_region_with (fail)
 clear e0;have HB:=z4 ((j0g w.heap.size w).drew);generalize w.drew=W0 at*;rcases a5 with⟨hf,g,hg⟩|⟨hf,hg,a3⟩
 ·by_cases a0:n=0
  ·subst a0
   have:True:=trivial
   ·skip
    go_wp2_with fail
    refine(HN.out _).mono ?_;rintro e W1 ⟨rfl,hw⟩;replace hw:=hw.symm;subst hw;go_wp2_with fail
    refine(HF.out W0 HB.out).mono ?_;rintro e W1 ⟨rfl,hw⟩;replace hw:=hw.symm;subst hw;rw[hg];go_wp2_with fail
    refine(HP.out W0 HB.out).mono ?_;rintro e W1 ⟨rfl,hs⟩;rw[jB]at hs;have HS:=z4 (zx.after HB.out hs);clear hs;go_wp2;go_ret;exact⟨rfl,HS.out⟩
  ·have a6:((n:Int) !=0)=true:=by rw[bne_iff_ne];omega
   have a1:((n:Int)==0)=false:=by rw[beq_eq_false_iff_ne];omega
   ·skip
    go_wp2_with fail
    refine(HN.out _).mono ?_;rintro e W1 ⟨rfl,hw⟩;replace hw:=hw.symm;subst hw;go_wp2_with fail
    refine(HC.out W0 HB.out (by omega)).mono ?_;rintro e W1 ⟨rfl,hw⟩;replace hw:=hw.symm;subst hw;go_wp2_with fail
    refine(HF.out W0 HB.out).mono ?_;rintro e W1 ⟨rfl,hw⟩;replace hw:=hw.symm;subst hw;rw[hg];go_wp2_with fail
    refine(HP.out W0 HB.out).mono ?_;rintro e W1 ⟨rfl,hs⟩;rw[jB]at hs;have HS:=z4 (zx.after HB.out hs);clear hs;go_wp2;go_ret;exact⟨rfl,HS.out⟩
 ·by_cases a0:n=0
  ·subst a0
   have:True:=trivial
   ·skip
    go_wp2_with fail
    refine(HN.out _).mono ?_;rintro e W1 ⟨rfl,hw⟩;replace hw:=hw.symm;subst hw;go_wp2_with fail
    refine(HF.out W0 HB.out).mono ?_;rintro e W1 ⟨rfl,hw⟩;replace hw:=hw.symm;subst hw;rw[hg];go_wp2_with fail
    refine(HG.out W0 HB.out).mono ?_;rintro e W1 ⟨rfl,hs⟩;rw[a3]at hs⊢;have HS:=z4 (zx.after HB.out hs);clear hs;go_wp2;go_ret;exact⟨rfl,HS.out⟩
  ·have a6:((n:Int) !=0)=true:=by rw[bne_iff_ne];omega
   have a1:((n:Int)==0)=false:=by rw[beq_eq_false_iff_ne];omega
   ·skip
    go_wp2_with fail
    refine(HN.out _).mono ?_;rintro e W1 ⟨rfl,hw⟩;replace hw:=hw.symm;subst hw;go_wp2_with fail
    refine(HC.out W0 HB.out (by omega)).mono ?_;rintro e W1 ⟨rfl,hw⟩;replace hw:=hw.symm;subst hw;go_wp2_with fail
    refine(HF.out W0 HB.out).mono ?_;rintro e W1 ⟨rfl,hw⟩;replace hw:=hw.symm;subst hw;rw[hg];go_wp2_with fail
    refine(HG.out W0 HB.out).mono ?_;rintro e W1 ⟨rfl,hs⟩;rw[a3]at hs⊢;have HS:=z4 (zx.after HB.out hs);clear hs;go_wp2;go_ret;exact⟨rfl,HS.out⟩
end
theorem GI (s:ByteArray)(w:eX)(hs:s.size≤281474976710656):
  wH sU 110 #[.string s] w fun e w' =>e= .returned (.string s)∧tH w.heap.size w w' :=by
 have H:=z4 (fun W=>Tryz.stringslite_Clone s W hs);go_enter Tryz.func110,Tryz.ntmps110;go_wp2_with fail
 refine(H.out _).mono ?_;rintro e W ⟨rfl,hb⟩;go_wp2;go_ret;exact⟨rfl,hb⟩
theorem cq (c:UInt8)(body:List UInt8):(tD (R.record c body).toArray).extract 3 (body.length+3)=⟨body.toArray⟩:=by
 have e:R.record c body=([c,nK (body.length/256),nK (body.length % 256)]++body)++ [nK ((1+R.sumB (R.recHead c body)) % 251)]:=rfl;rw[e];apply N8;simp[N9]
section
variable {w:eX}{M O:Nat→Prop}{B:Nat}{st:R.St}
theorem cZ (h:FA w M O B st)(r:R.Rc)(hr:r.ok st):
  wH sU 72 #[.pointer (some ⟨B,0,none⟩),.string ⟨r.bytes.toArray⟩] w fun e w' =>e= .returned (.bool true)∧zx w w' M O B (r.run st):=by
 have a7:=R.Rc.body_len h.inv hr;have a6:=cq r.letter r.body;have a8:(tD r.bytes.toArray).size=r.body.length+4:=by simp[DQ,R.Rc.bytes,R.record_len]
 have a1:∀hz:0<(tD r.bytes.toArray).size,((tD r.bytes.toArray)[0]'hz)=r.letter:=fun _=>rfl
 have a0:=z4 (fun W=>GI ⟨r.body.toArray⟩ W (by simp[DQ];omega));have HH:=z4 h;have hE:(tD r.bytes.toArray).extract 3 (r.body.length+3)=⟨r.body.toArray⟩:=a6;rcases hr with⟨hl,hc⟩|⟨hl,h1,h2,h3⟩|⟨hl,hf⟩
 ·have hb:r.body=R.bodyC r.cm:=by unfold R.Rc.body;rw[if_pos hl]
  have a4:r.run st=R.keepC st r.cm:=by unfold R.Rc.run;rw[if_pos hl]
  rw[a4];rw[hl]at a1;rw[hb]at hE a0 a8 a7;have HR:=z4 (fun(W:eX) (hW:tH w.heap.size w W)=>J4 (HH.out.below hW) r.cm hc);clear h a4 hb hl a6;generalize(tD r.bytes.toArray)=bb at*;have a5:0<bb.size:=by omega
  have e0:(bb[0]'a5).toNat=67:=congrArg NS (a1 a5);have b3:(3:Int)≤((R.bodyC r.cm).length:Int)+3:=by omega
  clear a1;generalize R.bodyC r.cm=bd at*;go_enter NT,NU;go_wp2_with fail
  refine(a0.out _).mono ?_;rintro e W1 ⟨rfl,a3⟩;have a2:=z4 a3;clear a3;go_wp2_with fail
  refine(HR.out W1 a2.out).mono ?_;rintro e W2 ⟨rfl,hs⟩;have HS:=z4 (zx.after a2.out hs);clear hs HR a0;go_wp2;go_ret;exact⟨rfl,HS.out⟩
 ·have hb:r.body=nK r.head::r.name:=by unfold R.Rc.body;rw[if_neg (by rw[hl];decide),if_pos hl]
  have a4:r.run st=R.headR st r.name r.head:=by unfold R.Rc.run;rw[if_neg (by rw[hl];decide),if_pos hl]
  rw[a4];rw[hl]at a1;rw[hb]at hE a0 a8 a7;have HR:=z4 (fun(W:eX) (hW:tH w.heap.size w W)=>UM (HH.out.below hW) r.name r.head h1 h2 h3);clear h a4 hb hl a6;generalize(tD r.bytes.toArray)=bb at*;have a5:0<bb.size:=by omega
  have e0:(bb[0]'a5).toNat=66:=congrArg NS (a1 a5);have b3:(3:Int)≤((nK r.head::r.name).length:Int)+3:=by omega
  clear a1;generalize nK r.head::r.name=bd at*;go_enter NT,NU;go_wp2_with fail
  refine(a0.out _).mono ?_;rintro e W1 ⟨rfl,a3⟩;have a2:=z4 a3;clear a3;go_wp2_with fail
  refine(HR.out W1 a2.out).mono ?_;rintro e W2 ⟨rfl,hs⟩;have HS:=z4 (zx.after a2.out hs);clear hs HR a0;go_wp2;go_ret;exact⟨rfl,HS.out⟩
 ·have hb:r.body=r.name:=by unfold R.Rc.body;rw[if_neg (by rw[hl];decide),if_neg (by rw[hl];decide)]
  have a4:r.run st=(R.dropped st r.name).2:=by unfold R.Rc.run;rw[if_neg (by rw[hl];decide),if_neg (by rw[hl];decide)]
  rw[a4];rw[hl]at a1;rw[hb]at hE a0 a8 a7;have HR:=z4 (fun(W:eX) (hW:tH w.heap.size w W)=>(BX B st r.name W M O (HH.out.ps.below hW) HH.out.inv HH.out.pk).mono (R' :=fun e w' =>e= .returned (.int .i64 0)∧zx W w' M O B (R.dropped st r.name).2) fun e w' ⟨q1,q2⟩=>⟨by rw[q1,show(R.dropped st r.name).1=0 by unfold R.dropped;rw[if_neg (by unfold R.fndI;rw[if_pos hf];omega)]],q2⟩);clear h a4 hb hl a6;generalize(tD r.bytes.toArray)=bb at*;have a5:0<bb.size:=by omega
  have e0:(bb[0]'a5).toNat=68:=congrArg NS (a1 a5);have b3:(3:Int)≤((r.name).length:Int)+3:=by omega
  clear a1;generalize r.name=bd at*;go_enter NT,NU;go_wp2_with fail
  refine(a0.out _).mono ?_;rintro e W1 ⟨rfl,a3⟩;have a2:=z4 a3;clear a3;go_wp2_with fail
  refine(HR.out W1 a2.out).mono ?_;rintro e W2 ⟨rfl,hs⟩;have HS:=z4 (zx.after a2.out hs);clear hs HR a0;go_wp2;go_ret;exact⟨rfl,HS.out⟩
theorem Gh (B:Nat)(w:eX)(bb:ByteArray)(h4:4≤bb.size)(hs:bb.size≤1000000)(h1:(bb[0]'(by omega)).toNat≠67)(h2:(bb[0]'(by omega)).toNat≠66)(h3:(bb[0]'(by omega)).toNat≠68):
  wH sU 72 #[.pointer (some ⟨B,0,none⟩),.string bb] w fun e w' =>e= .returned (.bool false)∧tH w.heap.size w w' :=by
 have a0:=z4 (fun(s:ByteArray) (hs:s.size≤1000000) W=>GI s W (by omega));have a4:0<bb.size:=by omega
 obtain⟨c0,a2⟩:∃c,(bb[0]'a4).toNat=c:=⟨_,rfl⟩
 rw[a2]at h1 h2 h3;have n1:((c0:Int)==67)=false:=by rw[beq_eq_false_iff_ne];omega
 have n2:((c0:Int)==66)=false:=by rw[beq_eq_false_iff_ne];omega
 have n3:((c0:Int)==68)=false:=by rw[beq_eq_false_iff_ne];omega
 obtain⟨m,hm⟩:∃m,bb.size=m+4:=⟨bb.size-4,by omega⟩
 have b3:(3:Int)≤(m:Int)+3:=by omega
 have a3:(bb.extract 3 (m+3)).size≤1000000:=by simp[ByteArray.size_extract];omega
 go_enter NT,NU;go_wp2_with fail
 refine(a0.out _ a3 _).mono ?_;rintro e W1 ⟨rfl,a1⟩;go_wp2;go_ret;exact⟨rfl,a1⟩
end
def Cz (w:eX)(p:List UInt8)(e:Ending)(w' :eX):Prop:=
 (if R.whole p=true then e= .returned (.tuple #[.string ⟨(p.take (R.recN p+4)).toArray⟩,.string ⟨(p.drop (R.recN p+4)).toArray⟩,.bool true])else e= .returned (.tuple #[.string ⟨#[]⟩,.string ⟨#[]⟩,.bool false]))∧tH w.heap.size w w'
theorem cW (p:List UInt8)(k:Nat)(hz:k<(tD p.toArray).size):((tD p.toArray)[k]'hz).toNat=(p.getD k 0).toNat:=by
 have hk:k<p.length:=by simpa[DQ]using hz
 show(p.toArray[k]).toNat=_;rw[lB,j0d hk];rfl
theorem OK (p:List UInt8)(n:Nat)(hn:n≤p.length):(tD p.toArray).extract 0 n=⟨(p.take n).toArray⟩:=by
 have:=J9 (p.take n) (p.drop n);rw[nS,pZ,I1 hn]at this;exact this
theorem Ca (p:List UInt8)(n m:Nat)(hn:n≤p.length)(hm:m=p.length):(tD p.toArray).extract n m=⟨(p.drop n).toArray⟩:=by
 have:=QJ (p.take n) (p.drop n) m (by rw[nS];exact hm);rw[nS,pZ,I1 hn]at this;exact this
theorem JE (p:List UInt8)(w:eX)(hp:p.length≤4611686018427387904):wH sU 71 #[.string ⟨p.toArray⟩] w (Cz w p):=by
 have e1:(tD p.toArray).size=p.length:=by simp[DQ]
 by_cases h3:p.length<3
 ·have hw:R.whole p=false:=by
   unfold R.whole;rw[decide_eq_false (by omega)];rfl
  have b3:(p.length:Int)<3:=by omega
  generalize(tD p.toArray)=pb at*;go_enter NV,NW;go_wp2;refine bodyPost_ret (v:= .tuple #[.string ⟨#[]⟩,.string ⟨#[]⟩,.bool false]) (by simp[results,NX,go_sem]) rfl ?_;unfold Cz;rw[hw];exact⟨rfl,j0g _ _⟩
 ·obtain⟨n,hn⟩:∃n,n=R.recN p:=⟨_,rfl⟩
  have l1:(p.getD 1 0).toNat<256:=(p.getD 1 0).toNat_lt;have l2:(p.getD 2 0).toNat<256:=(p.getD 2 0).toNat_lt;have a8:n=256*(p.getD 1 0).toNat+(p.getD 2 0).toNat:=by rw[hn];rfl
  obtain⟨a1,c6⟩:∃a,(p.getD 1 0).toNat=a:=⟨_,rfl⟩
  obtain⟨a2,c7⟩:∃a,(p.getD 2 0).toNat=a:=⟨_,rfl⟩
  rw[c6]at l1 a8;rw[c7]at l2 a8;have b3:¬(p.length:Int)<3:=by omega
  have e6:(1:Int)<(p.length:Int):=by omega
  have e7:(2:Int)<(p.length:Int):=by omega
  have HN:=z4 hn;have b9:=z4 a8;have e3:=z4 e1;have a5:∀m,m≤p.length→(tD p.toArray).extract 0 m=⟨(p.take m).toArray⟩:=fun m hm=>OK p m hm
  have a4:∀m,m≤p.length→(tD p.toArray).extract m p.length=⟨(p.drop m).toArray⟩:=fun m hm=>Ca p m _ hm rfl
  have a6:=cW p;have d3:=z4 a5;have d6:=z4 a4;have b2:=z4 a6;clear hn a8 a5 a4 a6;generalize(tD p.toArray)=pb at*;have c8:1<pb.size:=by omega
  have c9:2<pb.size:=by omega
  have i1:=(b2.out 1 c8).trans c6;have i2:=(b2.out 2 c9).trans c7;clear c6 c7;go_enter NV,NW;go_wp2;go_quiet (fail)
  clear i1 i2;have he:(3+(a1:Int)*256+(a2:Int))=((n+3:Nat):Int):=by rw[b9.out];push_cast;omega
  rw[he];have HB:=z4 (below_drewN (j0g w.heap.size w) nq);have e9:n≤65535:=by rw[b9.out];omega
  clear he l1 l2 b9;generalize w.drewN nq=W0 at*;obtain⟨en,a0⟩:∃en,en=n+3:=⟨_,rfl⟩
  rw[←a0];by_cases e8:p.length≤en
  ·have hw:R.whole p=false:=by
    unfold R.whole;rw[←HN.out,decide_eq_false (p:=3+n<p.length) (by omega)];simp
   have b4:(p.length:Int)≤(en:Int):=by omega
   clear a0;go_wp2;go_quiet (fail)
   go_wp2;refine bodyPost_ret (v:= .tuple #[.string ⟨#[]⟩,.string ⟨#[]⟩,.bool false]) (by simp[results,NX,go_sem]) rfl ?_;unfold Cz;rw[hw];exact⟨rfl,below_drewN HB.out nq⟩
  ·have b4:¬(p.length:Int)≤(en:Int):=by omega
   have b5:(en:Int)<(p.length:Int):=by omega
   have b6:(0:Int)≤(en:Int):=by omega
   have b7:(en:Int)≤(p.length:Int):=by omega
   have e2:en<pb.size:=by omega
   have ie:=b2.out en e2;have d4:=d3.out en (by omega);obtain⟨x,hx⟩:∃x,(p.getD en 0).toNat=x:=⟨_,rfl⟩
   obtain⟨cs,a7⟩:∃cs,(1+R.sumB (p.take en)) % 251=cs:=⟨_,rfl⟩
   rw[hx]at ie;have f0:x<256:=by rw[←hx];exact(p.getD en 0).toNat_lt
   have a3:en≤65538∨True:= .inr trivial;have b1:=z4 (fun W=>f8 (p.take en) W (by rw[pZ];omega));rw[a7]at b1;have a9:R.whole p=decide (x=cs):=by
    unfold R.whole;rw[←HN.out,decide_eq_true (p:=3+n<p.length) (by omega),decide_eq_true (p:=3≤p.length) (by omega),Nat.add_comm 3 n,←a0,hx,a7];rfl
   by_cases d5:x=cs
   ·subst d5
    rw[decide_eq_true rfl]at a9;have d8:=d3.out (en+1) (by omega);have d9:=d6.out (en+1) (by omega);have b8:(en:Int)+1≤(p.length:Int):=by omega
    have d7:Hid (R.recN p+4=en+1):=by show _=_;rw[←HN.out];omega
    clear hx a7 a0 a3 c8 c9;go_wp2;go_quiet ((go_at_call 109;exact NY (b1.out _)))
    clear ie d4;go_wp2;go_quiet (fail)
    go_wp2;refine bodyPost_ret (v:= .tuple #[.string ⟨(p.take (en+1)).toArray⟩,.string ⟨(p.drop (en+1)).toArray⟩,.bool true]) (by simp[results,NX,go_sem]) rfl ?_;unfold Cz;rw[a9,d7.out];exact⟨rfl,below_drewN (below_drewN HB.out _) _⟩
   ·rw[decide_eq_false d5]at a9
    have c1:((x:Int) !=(cs:Int))=true:=by rw[bne_iff_ne];omega
    have c2:((x:Int)==(cs:Int))=false:=by rw[beq_eq_false_iff_ne];omega
    clear hx a7 a0 a3 c8 c9;go_wp2;go_quiet ((go_at_call 109;exact NY (b1.out _)))
    clear ie d4;go_wp2;refine bodyPost_ret (v:= .tuple #[.string ⟨#[]⟩,.string ⟨#[]⟩,.bool false]) (by simp[results,NX,go_sem]) rfl ?_;unfold Cz;rw[a9];exact⟨rfl,below_drewN HB.out _⟩
theorem gV {st:R.St}{r:R.Rc}(hr:r.ok st):(r.run st).packed=st.packed++r.bytes:=by
 unfold R.Rc.run R.Rc.bytes R.Rc.body;rcases hr with⟨e,hc⟩|⟨e,h1,h2,h3⟩|⟨e,hf⟩
 ·rw[if_pos e,if_pos e,e];rfl
 ·rw[if_neg (by rw[e];decide),if_pos e,if_neg (by rw[e];decide),if_pos e,e]
  unfold R.headR;split<;>rfl
 ·rw[if_neg (by rw[e];decide),if_neg (by rw[e];decide),if_neg (by rw[e];decide),if_neg (by rw[e];decide),e]
  unfold R.dropped;rw[if_neg (by unfold R.fndI;rw[if_pos hf];omega)]
theorem qY:∀{rs:List R.Rc} {st:R.St},R.OkRs st rs→(R.runs st rs).packed=st.packed++R.bytesRs rs
 |[],st,_=>by simp[R.runs,R.bytesRs]
 |r::rs,st,h=>by
  have h1:=qY (rs:=rs) (st:=r.run st) h.2;show(R.runs (r.run st) rs).packed=_;rw[h1,gV h.1];simp[R.bytesRs]
theorem GR:∀{rs:List R.Rc} {st:R.St} (k:Nat) (hk:k<rs.length),R.OkRs st rs→(rs[k]).ok (R.runs st (rs.take k))
 |r::rs,st,0,_,h=>h.1
 |r::rs,st,k+1,hk,h=>GR (rs:=rs) (st:=r.run st) k (by simpa using hk) h.2
theorem fG (st:R.St)(rs:List R.Rc)(k:Nat)(hk:k<rs.length):R.runs st (rs.take (k+1))=(rs[k]).run (R.runs st (rs.take k)):=by
 unfold R.runs;rw[nN hk,List.foldl_append];rfl
def gz (w:eX)(M:Nat→Prop)(st:R.St)(e:Ending)(w' :eX):Prop:=∃(B:Nat) (O:Nat→Prop),e= .returned (.pointer (some ⟨B,0,none⟩))∧PS w' (fun b=>M b∨O b) O B st∧tH w.heap.size w w' ∧∀b,O b→w.heap.size≤b
def Opn (w:eX)(M:Nat→Prop)(B:Nat)(st:R.St)(W:eX):Prop:=∃O:Nat→Prop,PS W (fun b=>M b∨O b) O B st∧tH w.heap.size w W∧∀b,O b→w.heap.size≤b
theorem Opn.below {w:eX}{M:Nat→Prop}{B:Nat}{st:R.St}{W X:eX}(h:Opn w M B st W)(hb:tH W.heap.size W X):Opn w M B st X:=by
 obtain⟨O,h1,h2,h3⟩:=h;exact⟨O,h1.below hb,h2.trans (hb.mono h2.size),h3⟩
theorem Opn.rep {w:eX}{M:Nat→Prop}{B:Nat}{st:R.St}{W:eX}(h:Opn w M B st W)(hi:Inv st)(hM:∀b,M b→b<w.heap.size)(hG:Zp w)(hp:st.packed.length≤1000000000000)(r:R.Rc)(hr:r.ok st):
  wH sU 72 #[.pointer (some ⟨B,0,none⟩),.string ⟨r.bytes.toArray⟩] W fun e w' =>e= .returned (.bool true)∧Opn w M B (r.run st) w' :=by
 obtain⟨O,h1,h2,h3⟩:=h;have a0:∀b,O b→b<W.heap.size:=by obtain⟨bv,cv,LB,LCm,hx⟩:=h1;exact hx.lt
 have h6:=hG.size;refine(cZ (M:=fun b=>M b∨O b) (O:=O) ⟨h1,hi,fun b hb=> ?_,hG.below h2,fun b hb=>j0f h6 (h3 b hb),hp⟩ r hr).mono fun e w' ⟨e1,O',p1,p2,p3⟩=>⟨e1,O',?_,?_,?_⟩
 ·rcases hb with hb|hb
  ·exact j0b (hM b hb) h2.size
  ·exact a0 b hb
 ·exact p1.smaller (fun b hb=>hb.elim (fun hb=> .inl (.inl hb)) .inr) (fun b hb=> .inr hb)
 ·exact⟨p2.os.trans h2.os,p2.tape.trans h2.tape,p2.output.trans h2.output,j0f h2.size p2.size,fun k hk=>by
   rw[p2.block k (j0b hk h2.size) (fun e=>by have:=h3 k e;omega)];exact h2.block k hk⟩
 ·intro b hb
  rcases p3 b hb with hb|hb
  ·exact h3 b hb
  ·exact j0f h2.size hb
theorem Gl {rs:List R.Rc}(d3:R.OkRs R.bg0 rs)(q:List UInt8)(hq:Cx q)(w:eX)(M:Nat→Prop)(hM:∀b,M b→b<w.heap.size)(hG:Zp w)(hl:(R.bytesRs rs).length≤1000000000)(d9:q.length≤2305843009213693952):
  wH sU 40 #[.string ⟨(R.bytesRs rs++q).toArray⟩] w (gz w M (R.runs R.bg0 rs)):=by
 have HQ:=z4 hq;have b9:=z4 d3;have HM:=z4 hM;have HG:=z4 hG;clear hq d3 hM hG;go_enter Tryz.func40,Tryz.ntmps40;go_wp2_with fail
 refine(f9 w).mono ?_;rintro e W1 ⟨rfl,rfl⟩;have HO:Hid (Opn w M w.heap.size (R.runs R.bg0 (rs.take 0)) (w.alloc (.cells #[.slice none 0 0,.slice none 0 0,.slice none 0 0] 102))):=by
  refine⟨fun b=>b=w.heap.size,?_,(j0g _ w).alloc (j0a _) _,fun b hb=>by omega⟩;exact Bf (M:=fun b=>M b∨b=w.heap.size) (heap_alloc_new w (.cells #[.slice none 0 0,.slice none 0 0,.slice none 0 0] 102)) (.inr rfl)
 generalize w.alloc (.cells #[.slice none 0 0,.slice none 0 0,.slice none 0 0] 102)=V0 at*;generalize hB:w.heap.size=B at*;go_wp2;go_loopw [0] (fun pv wr=>∃(k:Nat) (tx:List UInt8),k≤rs.length∧pv= .string ⟨tx.toArray⟩∧tx=R.bytesRs (rs.drop k)++q∧Opn w M B (R.runs R.bg0 (rs.take k)) wr) (fun pv _=>zFS pv)
 case atStart=>exact⟨0,_,wB _,rfl,rfl,HO.out⟩
 case round=>
  obtain⟨k,tx,hk,rfl,a7,a8⟩:=hrel;have a5:=z4 a8;clear a8 HO;have hM:∀b,M b→b<w.heap.size:=by rw[hB];exact HM.out
  have b5:R.OkRs R.bg0 (rs.take k):=b9.out.take k;have a6:=R.OkRs.inv R.inv0 b5;have a9:=qY b5;have d5:(R.bytesRs (rs.take k)).length≤(R.bytesRs rs).length:=by
   conv=>rhs;rw[←nS k rs]
   unfold R.bytesRs;rw[pD,nL];omega
  have b3:(R.bytesRs (rs.drop k)).length≤(R.bytesRs rs).length:=by
   conv=>rhs;rw[←nS k rs]
   unfold R.bytesRs;rw[pD,nL];omega
  have c8:(R.runs R.bg0 (rs.take k)).packed.length≤1000000000000:=by
   rw[a9];show(([]:List UInt8)++R.bytesRs (rs.take k)).length≤_;rw[nV];omega
  have d8:tx.length≤4611686018427387904:=by
   rw[a7,nL];omega
  have HF:=z4 (fun W=>JE tx W d8);by_cases b4:k<rs.length
  ·have b6:=GR k b4 b9.out
   have hb:=R.Rc.body_len a6 b6;have b1:=fG R.bg0 rs k b4;obtain⟨rest,a0⟩:∃rest,rest=R.bytesRs (rs.drop (k+1))++q:=⟨_,rfl⟩
   have a1:tx=rs[k].bytes++rest:=by
    rw[a7,a0,nP b4];unfold R.bytesRs;rw[List.flatMap_cons,sM]
   have b8:=z4 (fun(W:eX) (h:Opn w M B (R.runs R.bg0 (rs.take k)) W)=>h.rep a6 hM HG.out c8 rs[k] b6);have c6:=z4 b1;have d4:=z4 a0;generalize rs[k]=r at*;obtain⟨w1,w2⟩:=R.whole_rec r.letter r.body rest (by omega);have c9:r.bytes.length=r.body.length+4:=R.record_len _ _;have a2:Hid (∀W,wH sU 71 #[.string ⟨tx.toArray⟩] W fun e w' =>e= .returned (.tuple #[.string ⟨r.bytes.toArray⟩,.string ⟨rest.toArray⟩,.bool true])∧tH W.heap.size W w'):=fun W=>by
    refine(HF.out W).mono fun e w' ⟨h1,h2⟩=>⟨?_,h2⟩
    have e1:R.recN tx=r.body.length:=by rw[a1];exact w1
    have e2:R.whole tx=true:=by rw[a1];exact w2
    rw[if_pos e2,e1,a1,←c9,List.take_left,List.drop_left]at h1;exact h1
   have d7:tx.length=r.bytes.length+rest.length:=by rw[a1,nL]
   have e6:0<r.bytes.length:=by omega
   clear a7 a1 b1 a0 w1 w2 b6 hb c9 HF;go_wp2_with fail
   refine(a2.out _).mono ?_;rintro e W1 ⟨rfl,a3⟩;have a4:=z4 (b8.out W1 (a5.out.below a3));clear a3 a2 a5 b8;go_wp2_with fail
   refine a4.out.mono ?_;rintro e W2 ⟨rfl,a8⟩;rw[←c6.out]at a8;have b2:=z4 a8;clear a8 a4 c6;go_wp2;go_roundw
   case rel=>exact⟨k+1,rest,by omega,rfl,d4.out,b2.out⟩
   case measure=>simp[zFS,DQ];omega
  ·have d6:k=rs.length:=by omega
   subst d6;rw[aV]at a7;replace a7:tx=q:=a7;subst a7;rw[aU]at a5;clear b5 a6 a9 d5 b3 c8;rcases HQ.out with hw|⟨hw,n1,n2,n3⟩
   ·have a2:Hid (∀W,wH sU 71 #[.string ⟨tx.toArray⟩] W fun e w' =>e= .returned (.tuple #[.string ⟨#[]⟩,.string ⟨#[]⟩,.bool false])∧tH W.heap.size W w'):=fun W=>by
     refine(HF.out W).mono fun e w' ⟨h1,h2⟩=>⟨?_,h2⟩
     rw[hw,if_neg (by simp)]at h1;exact h1
    clear HF;go_wp2_with fail
    refine(a2.out _).mono ?_;rintro e W1 ⟨rfl,a3⟩;have a4:=z4 (a5.out.below a3);clear a3 a2 a5;go_wp2;go_ret;obtain⟨O,g1,g2,g3⟩:=a4.out;exact⟨B,O,rfl,g1,g2,g3⟩
   ·have h3:3≤tx.length∧3+R.recN tx<tx.length:=by
     unfold R.whole at hw;simp only[Bool.and_eq_true,decide_eq_true_eq]at hw;exact⟨hw.1,hw.2.1⟩
    have e3:R.recN tx≤65535:=by
     unfold R.recN;have:=(tx.getD 1 0).toNat_lt;have:=(tx.getD 2 0).toNat_lt;omega
    have a2:Hid (∀W,wH sU 71 #[.string ⟨tx.toArray⟩] W fun e w' =>e= .returned (.tuple #[.string ⟨(tx.take (R.recN tx+4)).toArray⟩,.string ⟨(tx.drop (R.recN tx+4)).toArray⟩,.bool true])∧tH W.heap.size W w'):=fun W=>by
     refine(HF.out W).mono fun e w' ⟨h1,h2⟩=>⟨?_,h2⟩
     rw[hw,if_pos rfl]at h1;exact h1
    have hs:(tD (tx.take (R.recN tx+4)).toArray).size=R.recN tx+4:=by simp[DQ];omega
    have hg:∀hz:0<(tD (tx.take (R.recN tx+4)).toArray).size,((tD (tx.take (R.recN tx+4)).toArray)[0]'hz).toNat=(tx.getD 0 0).toNat:=fun hz=>by
     rw[cW];rw[lB,lB,List.getElem?_take,if_pos (by omega)]
    have b7:=z4 (fun W=>Gh B W ⟨(tx.take (R.recN tx+4)).toArray⟩ (by omega) (by omega) (by rw[hg];exact n1) (by rw[hg];exact n2) (by rw[hg];exact n3));clear HF hs hg hw;generalize(tD (tx.take (R.recN tx+4)).toArray)=fb at*;generalize tx.drop (R.recN tx+4)=db at*;go_wp2_with fail
    refine(a2.out _).mono ?_;rintro e W1 ⟨rfl,a3⟩;have a4:=z4 (a5.out.below a3);clear a3 a2 a5;go_wp2_with fail
    refine(b7.out _).mono ?_;rintro e W2 ⟨rfl,c7⟩;have b2:=z4 (a4.out.below c7);clear c7 b7 a4;go_wp2;go_ret;obtain⟨O,g1,g2,g3⟩:=b2.out;exact⟨B,O,rfl,g1,g2,g3⟩
