import Derived.Test.YtolgebdmffcemaaGreatDoorQ16
import Derived.Test.YtolgebdmffcemaaGreatDoorQ11
set_option linter.all false
set_option maxHeartbeats 20000000
set_option maxRecDepth 1000000
open Go renaming Value→eB,World→eX,Calls→wH
open Go.Proofs.Tryz renaming prog→sU,func52→H9,ntmps52→I0,func48→I2,ntmps48→I3,func54→I5,ntmps54→I6,func26→I7,ntmps26→I8,func29→IA,ntmps29→IB,func37→IC,ntmps37→ID,func181→IE,ntmps181→IF,func132→IG,ntmps132→IH,func131→II,ntmps131→IJ,func130→IK,ntmps130→IL,func97→IM,ntmps97→IN,underlying99→IR,underlying100→H5,underlying9→H6,func20→IT,ntmps20→IU,func51→IV,ntmps51→IW,func22→IX,ntmps22→IY,func59→IZ,ntmps59→L0
open List renaming length_map→aN,getElem?_map→sZ,getElem_map→tM,mem_cons→iT,not_mem_nil→lA,map_cons→DM,map_nil→H3,mem_map→rR,length_append→nL,take_succ_eq_append_getElem→nN,take_of_length_le→nR,map_append→tB,mem_append→iZ,mem_singleton→iV,map_map→DP,map_congr_left→aQ
open UInt8 renaming ofNat→nK
open Go.World renaming frozen?_setCell→tI,cell?_of_block→sD,frozen?_of_block→I4,cell?→sE,cell?_alloc_past→IP,frozen?_alloc_past→IQ,size_setCell→IS
open Nat renaming min_eq_left→I1,zero_le→wB
open Go.RowKit renaming Below→tH
open ByteArray renaming size→DQ
open Bool renaming true_eq_false→I9
open Go.Lib renaming byteCells→tG
namespace Go.Proofs.YtolgebdmffcemaaGreatDoor
open Go.RowKit Go.Shelf
theorem uK:∀(L:List (R.Cm×eB×eB)) (i:Nat) (h:i<L.length),(YJ L)[i*2+1]? =some (L[i]'h).2.2
 |p::r,0,_=>by simp[YJ]
 |p::r,i+1,h=>by
  have ih:=uK r i (by simpa using h);unfold YJ at ih⊢;rw[List.flatMap_cons,show(i+1)*2+1=(i*2+1)+2 from by omega];simpa using ih
theorem Yn {w:eX}{M O:Nat→Prop}{B:Nat}{st:R.St}{bv cv:eB}{LB:List BrP}{LCm:List (R.Cm×eB×eB)}(h:PSx w M O B st bv cv LB LCm)(n:Nat)(hn:n≤st.cms.length)(_hc:st.cms.length≤60):
  wH sU 52 #[.pointer (some ⟨B,0,none⟩),.int .i64 (n:Int)] w fun e w' =>∃ta tc,e= .returned (.slice ta (R.treeOf st n).length tc)∧PT w M (.slice ta (R.treeOf st n).length tc) (R.treeOf st n)∧w' =w:=by
 by_cases h0:n=0
 ·subst h0
  have ht:R.treeOf st 0=[]:=by simp[R.treeOf]
  rw[ht];clear h;go_enter H9,I0;go_wp2;go_ret;exact⟨none,0,rfl,⟨[],rfl,⟨none,0,rfl,by simp,by unfold maxLen;omega,fun h=>by simp at h⟩,by simp⟩,rfl⟩
 ·have a6:st.cms.length=LCm.length:=by rw[←h.cms,aN]
  have a2:n-1<LCm.length:=by omega
  have hT:R.treeOf st n=(LCm[n-1]'a2).1.tree:=by
   rw[R.treeOf,if_neg h0,←h.cms,sZ,j0d a2];rfl
  have hp:=h.ctree _ (j0c a2);rw[←hT]at hp;have c1:=h.c1;obtain⟨a,cap,rfl,a7,hm,a3,a1⟩:=zh h.crow
  cases a with
  |none=>have:=(a3 rfl).1;omega
  |some ad=>
  obtain⟨g,rfl,_,_,_,a0⟩:=a1 ad rfl;have e1:=a0 _ _ (uK LCm (n-1) a2);obtain⟨ta,tc,hv⟩:∃a c,(LCm[n-1]'a2).2.2= .slice a (R.treeOf st n).length c:=by
   obtain⟨L,hL,⟨a,c,hv,_⟩,_⟩:=hp;exact⟨a,c,by rw[hv,←hL,aN]⟩
  rw[hv]at e1 hp;unfold maxLen at hm;have HP:=z9 hp;have a8:((n:Int)==0)=false:=by rw[Bool.eq_false_iff];simp;omega
  have a4:(n:Int)-1=((n-1:Nat):Int):=by omega
  clear h a0 a1 a3 hT hp hv h0;generalize R.treeOf st n=tr at*;obtain⟨m,a5⟩:∃m,m=n-1:=⟨_,rfl⟩
  rw[←a5]at e1 a2 a4;clear a5;go_enter H9,I0;go_wp2;go_ret;exact⟨ta,tc,rfl,HP.out,rfl⟩
theorem yw (w:eX)(n:Nat)(hn:w.heap.size=n)(C:Array eB)(t:TypeId)(hC:C.size≤1000):Rd (w.alloc (.cells C t)) (fun _=>False) (.slice (some ⟨n,0,none⟩) C.size C.size) C.size C.toList:=by
 subst hn;exact gY w C t hC
theorem zf.then {O O1:Nat→Prop}{w w1 w2:eX}(h:zf O w w1)(hO:∀b,O1 b→O b∨w.heap.size≤b)(h2:zf O1 w1 w2):zf O w w2:=
 ⟨h2.os.trans h.os,h2.tape.trans h.tape,h2.output.trans h.output,j0f h.size h2.size,fun k hk hn=>by
  rw[h2.block k (j0b hk h.size) (fun e=>by rcases hO k e with e|e;exact hn e;omega)];exact h.block k hk hn⟩
def xC (st:R.St)(name:List UInt8)(head:Nat):R.St:=
 if R.fnd st.brs name<st.brs.length then {st with brs:=st.brs.set (R.fnd st.brs name) {name:=name,head:=head,work:=R.treeOf st head},packed:=st.packed++R.record 66 (nK head::name)}
 else R.headNew st {name:=name,head:=head,work:=R.treeOf st head}
theorem ky {w:eX}{M:Nat→Prop}{p:BrP}(a0:ku w M p)(name:List UInt8)(hn:p.1.name=name)(head:Nat){tv:eB}{t:List R.Leaf}(a1:PT ((w.setCell ⟨p.2.1,1,none⟩ (.int .i64 (head:Int))).setCell ⟨p.2.1,2,none⟩ tv) M tv t):
  ku ((w.setCell ⟨p.2.1,1,none⟩ (.int .i64 (head:Int))).setCell ⟨p.2.1,2,none⟩ tv) M ({name:=name,head:=head,work:=t},p.2.1,tv):=by
 subst hn;refine⟨?_,?_,?_,fun o=> ?_,a1⟩
 ·rw[zN _ _ _ _ _ (by omega),zN _ _ _ _ _ (by omega)];exact a0.c0
 ·rw[zN _ _ _ _ _ (by omega)];exact Yh _ _ _ _ _ a0.c1
 ·exact Yh _ _ _ _ p.2.2 (by rw[zN _ _ _ _ _ (by omega)];exact a0.c2)
 ·rw[tI,tI];exact a0.fr o
theorem cM (w:eX)(bb:Nat)(u tv:eB):zf (fun b=>b=bb) w ((w.setCell ⟨bb,1,none⟩ u).setCell ⟨bb,2,none⟩ tv):=
 ((zf.refl (fun b=>b=bb) w).setCell (p:=⟨bb,1,none⟩) (.inl rfl) u).setCell (p:=⟨bb,2,none⟩) (.inl rfl) tv
theorem cS (l:List R.Br)(name:List UInt8)(h:Nat)(t:List R.Leaf):R.insB l {name:=name,head:=h,work:=t}=(R.insB l {name:=name,head:=0,work:=[]}).set (R.pos l name) {name:=name,head:=h,work:=t}:=by
 have a0:R.pos l name≤l.length:=List.findIdx_le_length;unfold R.insB;simp only;rw[List.set_append_right _ _ (by simp;omega)];simp[I1 a0]
theorem f5 (B:Nat)(st:R.St)(name:List UInt8)(head:Nat)(w:eX)(M O:Nat→Prop)(h:PS w M O B st)(hi:Inv st)(hh:head≤st.cms.length)(l0:name.length≤1000)(i3:st.packed.length≤1000000000000):
  wH sU 48 #[.pointer (some ⟨B,0,none⟩),.string ⟨name.toArray⟩,.int .i64 (head:Int)] w fun e w' =>e= .returned (.tuple #[])∧zx w w' M O B (xC st name head):=by
 obtain⟨bv,cv,LB,LCm,hP⟩:=h;have c6:=kg hP hi name;rw[QH]at c6;have d8:st.brs.length=LB.length:=by rw[←hP.brs,aN]
 obtain⟨a,cap,d4,hn,hm,b9,a5⟩:=zh hP.row;have c0:=hP.c0;rw[d4]at c0;unfold maxLen at hm;have g8:=hP.lt B hP.own;have d5:=hi.few;by_cases hf:R.fnd st.brs name<st.brs.length
 ·have HR:Hid (xC st name head={st with brs:=st.brs.set (R.fnd st.brs name) {name:=name,head:=head,work:=R.treeOf st head},packed:=st.packed++R.record 66 (nK head::name)}):=by show _=_;rw[xC,if_pos hf]
  rw[decide_eq_true hf,←j8 hi.sort name hf]at c6;have hl:R.fnd st.brs name<LB.length:=by omega
  have g4:(LB[R.fnd st.brs name]'hl).1.name=name:=by
   have:(LB[R.fnd st.brs name]'hl).1=(st.brs[R.fnd st.brs name]'hf):=by simp only[←hP.brs,tM]
   rw[this];exact R.fnd_name _ _ hf
  have c7:=Yn hP head hh d5;have a7:=hP.at_ _ (j0c hl);have hO:=(hP.blk _ (j0c hl)).1;have k8:=hP.lt _ hO;have k1:=a7.c1;have k2:=a7.c2;have f1:=a7.fr 1;have f2:=a7.fr 2;have HP:=z9 hP;have k6:=z9 g4;have HH:=z9 a7
  cases a with
  |none=>have:=(b9 rfl).1;omega
  |some ad=>
  obtain⟨g,rfl,_,k9,_,b2⟩:=a5 ad rfl;have e0:=qm b2 (R.fnd st.brs name) hl;have HS:Hid (∀(tv:eB) (t:List R.Leaf),PT w M tv t→PSx ((w.setCell ⟨(LB[R.fnd st.brs name]'hl).2.1,1,none⟩ (.int .i64 (head:Int))).setCell ⟨(LB[R.fnd st.brs name]'hl).2.1,2,none⟩ tv) M O B {st with brs:=st.brs.set (R.fnd st.brs name) {name:=name,head:=head,work:=t}} bv cv (LB.set (R.fnd st.brs name) ({name:=name,head:=head,work:=t},(LB[R.fnd st.brs name]'hl).2.1,tv)) LCm∧zf O w ((w.setCell ⟨(LB[R.fnd st.brs name]'hl).2.1,1,none⟩ (.int .i64 (head:Int))).setCell ⟨(LB[R.fnd st.brs name]'hl).2.1,2,none⟩ tv)):=by
   intro tv t a9;have hK:=cM w (LB[R.fnd st.brs name]'hl).2.1 (.int .i64 (head:Int)) tv;exact Qy hP hl (j0g _ _) hK (ky a7 name g4 head (a9.step hK (fun b e=>by subst e;exact hP.sub _ hO) (fun b e=> .inl e)))
  generalize(LB[R.fnd st.brs name]'hl).2.1=bb at*;generalize(LB[R.fnd st.brs name]'hl).2.2=t0 at*;clear hP hi b2 a5 b9 d8 hf g4 a7;generalize R.fnd st.brs name=k at*;go_enter I2,I3;go_wp2_with fail
  refine c6.mono ?_;rintro e w1 ⟨rfl,g6⟩;subst g6;go_wp2_with fail
  refine c7.mono ?_;rintro e w2 ⟨ta,tc,rfl,a9,k3⟩;subst k3;obtain⟨e2,d7⟩:=HS.out _ _ a9;have f3:=z9 e2;have e8:=z9 d7;clear c7 c6 a9 e2 d7;go_wp2_with fail
  have c8:=yM (.slice (some ⟨w2.heap.size,0,none⟩) 1 1) [(head:Int)] (((w2.setCell ⟨bb,1,none⟩ (.int .i64 (head:Int))).setCell ⟨bb,2,none⟩ (.slice ta (R.treeOf st head).length tc)).alloc (.cells #[.int .i64 (head:Int)] 3)) (fun _=>False) (yw _ _ (by simp) #[.int .i64 (head:Int)] 3 (by simp)) (by simp);refine c8.mono ?_;rintro e w7 ⟨rfl,c9⟩;clear c8;generalize f7:((w2.setCell ⟨bb,1,none⟩ (.int .i64 (head:Int))).setCell ⟨bb,2,none⟩ (.slice ta (R.treeOf st head).length tc))=w6 at*;have a1:tH w6.heap.size w6 w7:=((j0g _ _).alloc (j0a _) _).trans (c9.mono (by simp));have b7:tH w6.heap.size w6 (w7.alloc (.cells #[.string ⟨([(head:Int)].map byteOf).toArray⟩,.string ⟨name.toArray⟩] 9)):=a1.alloc a1.size _;have e6:=j7 B 66 66 (by decide) (.slice (some ⟨w7.heap.size,0,none⟩) 2 2) [[(head:Int)].map byteOf,name] (f3.out.below b7) (fun _=>False) (yw w7 _ rfl #[.string ⟨([(head:Int)].map byteOf).toArray⟩,.string ⟨name.toArray⟩] 9 (by simp)) (by simp) (by
   intro i hi;simp only[iT,lA,or_false]at hi;rcases hi with rfl|rfl
   ·simp
   ·omega) i3
  have e7:=z9 b7;have f0:Hid ([[(head:Int)].map byteOf,name].flatten=nK head::name):=by
   show _=_;simp[y7]
  clear c9 a1 b7 f7;simp only[DM,H3]at*;go_wp2_with fail
  refine e6.mono ?_;rintro e w9 ⟨rfl,e3⟩;have f4:=z9 e3;clear e3 e6;go_wp2;go_end0
  refine⟨rfl,?_⟩;have h9:=f4.out;rw[f0.out]at h9;rw[HR.out];obtain⟨O2,j6,j1,j5⟩:=h9;exact⟨O2,j6,(e8.out.trans ((zf.of_below e7.out).trans j1)),fun b e=>by
   rcases j5 b e with e|e
   ·exact .inl e
   ·exact .inr (j0f e8.out.size (j0f e7.out.size e))⟩
 ·have HR:Hid (xC st name head={st with brs:=(R.insB st.brs {name:=name,head:=0,work:=[]}).set (R.pos st.brs name) {name:=name,head:=head,work:=R.treeOf st head},packed:=st.packed++R.record 66 (nK head::name)}):=by
   show _=_;rw[xC,if_neg hf,R.headNew,cS]
  rw[decide_eq_false hf]at c6;have k7:LB.length≤6:=by have:=hi.many;omega
  have i8:=hP.fr 0;have HP:=z9 hP;clear hP hi hf a5 b9 d8;go_enter I2,I3;go_wp2_with fail
  refine c6.mono ?_;rintro e w2 ⟨rfl,g6⟩;subst g6;clear c6;have i5:=HP.out.row;have f8:∀g,bv.ownBlock=some g→g<w2.heap.size∧g≠B:=fun g e=>⟨HP.out.lt g (HP.out.rowO g e).1,(HP.out.rowO g e).2⟩
  have i4:yI R.Br.name st.brs name≤LB.length:=by
   have:=bh R.Br.name st.brs name;have e:st.brs.length=LB.length:=by rw[←HP.out.brs,aN]
   omega
  have b6:=GH insB bv LB.length (yI R.Br.name st.brs name) (w2.heap.size+1) 0 (Xe LB) #[.pointer (some ⟨w2.heap.size,0,none⟩)] ((w2.alloc (Obj.cells #[.string ⟨name.toArray⟩,.int .i64 0,.slice none 0 0] 95)).alloc (Obj.cells #[.pointer (some ⟨w2.heap.size,0,none⟩)] 88)) ((i5.alloc _).alloc _) (wB _) i4 (by omega) (by simpa using heap_alloc_new (w2.alloc (Obj.cells #[.string ⟨name.toArray⟩,.int .i64 0,.slice none 0 0] 95)) (Obj.cells #[.pointer (some ⟨w2.heap.size,0,none⟩)] 88)) rfl (fun e=>by have:=(f8 _ e).1;omega) (by
    intro u hu;obtain⟨q,_,rfl⟩:=rR.1 hu;rfl) (by intro u hu;simp at hu;subst hu;rfl)
  have e9:=z9 f8;have k5:=z9 d4;rw[d4]at b6;clear i5 f8;go_wp2_with fail
  refine b6.mono ?_;rintro e w3 ⟨v3,rfl,i2,b3,f9⟩;rw[←d4]at b3 f9;have l3:w2.heap.size+2≤w3.heap.size:=by have:=b3.size;simpa using this
  have g1:bv.ownBlock≠some B:=fun e=>(e9.out _ e).2 rfl
  have a8:∀k,k<w2.heap.size→bv.ownBlock≠some k→w3.heap[k]? =w2.heap[k]? :=fun k hk g2=>by
   rw[b3.block k (by simp;omega) (fun e=>g2 e.symm),heap_alloc_old _ _ (by simp;omega),heap_alloc_old _ _ hk]
  have d0:w3.cell? ⟨B,0,none⟩=some (.slice a LB.length cap):=(sD (a:=⟨B,0,none⟩) (a8 B g8 g1)).trans c0;have g0:w3.frozen? ⟨B,0,none⟩=false:=(I4 (a:=⟨B,0,none⟩) (a8 B g8 g1)).trans i8;have d3:w3.heap[w2.heap.size]? =some (.cells #[.string ⟨name.toArray⟩,.int .i64 0,.slice none 0 0] 95 (0,0)):=by
   rw[b3.block _ (by simp;omega) (fun e=>by have:=(e9.out _ e.symm).1;omega),heap_alloc_old _ _ (by simp)];exact heap_alloc_new w2 _
  have HK:Hid (zf (fun b=>bv.ownBlock=some b) w2 w3):=⟨b3.os,b3.tape,b3.output,by omega,fun k hk g2=>a8 k hk g2⟩
  have a4:∀W (M0:Nat→Prop),PT W M0 (.slice none 0 0) []:=fun W M0=>⟨[],rfl,⟨none,0,rfl,by simp,by unfold maxLen;omega,fun h=>by simp at h⟩,by simp⟩
  have a7:ku w3 (fun _=>False) ({name:=name,head:=0,work:=[]},w2.heap.size,.slice none 0 0):=
   ⟨by simp only[sE,d3];rfl,by simp only[sE,d3];rfl,by simp only[sE,d3];rfl,fun o=>by simp[World.frozen?,d3],a4 _ _⟩
  have f6:∀g,v3.ownBlock=some g→bv.ownBlock=some g∨w2.heap.size+2≤g:=fun g e=>by
   rcases f9 g e with h|h
   ·exact .inl h
   ·exact .inr (by simpa using h)
  have g5:R.pos st.brs name=yI R.Br.name st.brs name:=rfl;obtain⟨O1,b1,g9,h0⟩:=cT (st' :={st with brs:=R.insB st.brs {name:=name,head:=0,work:=[]}}) HP.out HK.out ({name:=name,head:=0,work:=[]},w2.heap.size,.slice none 0 0) (by simpa[g5]using i2) (fun g e=>by
   rcases f6 g e with h|h
   ·exact .inl h
   ·exact .inr (by omega)) ⟨j0a _,by show w2.heap.size<_;omega,⟨a4 _ _,a7⟩,fun e=>by
   rcases f6 _ e with h|h
   ·have:=HP.out.lt _ (HP.out.rowO _ h).1
    simp only at this;omega
   ·simp only at h;omega⟩ rfl rfl rfl
  have e1:R.pos st.brs name≤LB.length:=i4;simp only at b1;have d9:(LB.take (R.pos st.brs name)++(({name:=name,head:=0,work:=[]},w2.heap.size,.slice none 0 0):BrP)::LB.drop (R.pos st.brs name))[R.pos st.brs name]? =some ({name:=name,head:=0,work:=[]},w2.heap.size,.slice none 0 0):=by
   rw[List.getElem?_append_right (by simp;omega)];simp[I1 e1]
  obtain⟨d6,b8⟩:=List.getElem?_eq_some_iff.1 d9;have c7:=Yn b1 head hh d5;have i0:R.treeOf {st with brs:=R.insB st.brs {name:=name,head:=0,work:=[]}} head=R.treeOf st head:=rfl;rw[i0]at c7;clear i0;have a0:=b1.at_ _ (j0c d6);have hO:=(b1.blk _ (j0c d6)).1;have b5:=b1.row;have HS:Hid (∀(tv:eB) (t:List R.Leaf),PT (w3.setCell ⟨B,0,none⟩ v3) (fun b=>M b∨O1 b) tv t→PSx (((w3.setCell ⟨B,0,none⟩ v3).setCell ⟨w2.heap.size,1,none⟩ (.int .i64 (head:Int))).setCell ⟨w2.heap.size,2,none⟩ tv) (fun b=>M b∨O1 b) O1 B {st with brs:=(R.insB st.brs {name:=name,head:=0,work:=[]}).set (R.pos st.brs name) {name:=name,head:=head,work:=t}} v3 cv ((LB.take (R.pos st.brs name)++(({name:=name,head:=0,work:=[]},w2.heap.size,.slice none 0 0):BrP)::LB.drop (R.pos st.brs name)).set (R.pos st.brs name) ({name:=name,head:=head,work:=t},w2.heap.size,tv)) LCm∧zf O1 (w3.setCell ⟨B,0,none⟩ v3) (((w3.setCell ⟨B,0,none⟩ v3).setCell ⟨w2.heap.size,1,none⟩ (.int .i64 (head:Int))).setCell ⟨w2.heap.size,2,none⟩ tv)):=by
   intro tv t a9;have hK:=cM (w3.setCell ⟨B,0,none⟩ v3) w2.heap.size (.int .i64 (head:Int)) tv;rw[b8]at a0 hO;have:=Qy (nb:={name:=name,head:=head,work:=t}) (tv:=tv) b1 d6 (j0g _ _) (by rw[b8];exact hK) (by rw[b8];exact ky a0 name rfl head (a9.step hK (fun b e=>by subst e;exact b1.sub _ hO) (fun b e=> .inl e)));rw[b8]at this;exact this
  rw[b8]at a0;have k1:=a0.c1;have k2:=a0.c2;have f1:=a0.fr 1;have f2:=a0.fr 2;have i7:=z9 g9;have g7:=z9 h0;obtain⟨a3,c3,i6,j3,j2,b4,a6⟩:=zh b5;have i1:(LB.take (R.pos st.brs name)++(({name:=name,head:=0,work:=[]},w2.heap.size,.slice none 0 0):BrP)::LB.drop (R.pos st.brs name)).length=LB.length+1:=by
   simp only[nL,List.length_take,List.length_cons,List.length_drop];omega
  cases a3 with
  |none=>have:=(b4 rfl).1;omega
  |some ad=>
  obtain⟨g3,rfl,_,j0,_,a2⟩:=a6 ad rfl;have e0:=qm a2 _ d6;rw[b8]at e0;rw[i1]at i6;unfold maxLen at j2;have j4 :LB.length+1≤c3:=by omega
  subst i6;have i9:B<w3.heap.size:=by omega
  have j9:((yI R.Br.name st.brs name:Nat):Int)<((LB.length:Nat):Int)+1:=by omega
  clear b3 f9 i2 b6 a8 d3 g1 e9 d4 b1 g9 h0 a7 a0 hO b5 d9 a2 a6 b4 f6 j3 b8 i1 d6 a4 e1;simp only[g5]at*;clear g5;generalize yI R.Br.name st.brs name=p at*;go_wp2_with fail
  refine c7.mono ?_;rintro e w5 ⟨ta,tc,rfl,a9,k4⟩;obtain⟨e2,d7⟩:=HS.out _ _ a9;have f3:=z9 e2;have e8:=z9 d7;clear c7 a9 e2 d7 HS;subst k4;go_wp2_with fail
  have c8:=yM (.slice (some ⟨w3.heap.size,0,none⟩) 1 1) [(head:Int)] ((((w3.setCell ⟨B,0,none⟩ (.slice (some ⟨g3,0,none⟩) (LB.length+1) c3)).setCell ⟨w2.heap.size,1,none⟩ (.int .i64 (head:Int))).setCell ⟨w2.heap.size,2,none⟩ (.slice ta (R.treeOf st head).length tc)).alloc (.cells #[.int .i64 (head:Int)] 3)) (fun _=>False) (yw _ _ (by simp) #[.int .i64 (head:Int)] 3 (by simp)) (by simp);refine c8.mono ?_;rintro e w7 ⟨rfl,c9⟩;clear c8;generalize f7:(((w3.setCell ⟨B,0,none⟩ (.slice (some ⟨g3,0,none⟩) (LB.length+1) c3)).setCell ⟨w2.heap.size,1,none⟩ (.int .i64 (head:Int))).setCell ⟨w2.heap.size,2,none⟩ (.slice ta (R.treeOf st head).length tc))=w6 at*;have a1:tH w6.heap.size w6 w7:=((j0g _ _).alloc (j0a _) _).trans (c9.mono (by simp));have b7:tH w6.heap.size w6 (w7.alloc (.cells #[.string ⟨([(head:Int)].map byteOf).toArray⟩,.string ⟨name.toArray⟩] 9)):=a1.alloc a1.size _;have e6:=j7 B 66 66 (by decide) (.slice (some ⟨w7.heap.size,0,none⟩) 2 2) [[(head:Int)].map byteOf,name] (f3.out.below b7) (fun _=>False) (yw w7 _ rfl #[.string ⟨([(head:Int)].map byteOf).toArray⟩,.string ⟨name.toArray⟩] 9 (by simp)) (by simp) (by
   intro i hi;simp only[iT,lA,or_false]at hi;rcases hi with rfl|rfl
   ·simp
   ·omega) i3
  have e7:=z9 b7;have f0:Hid ([[(head:Int)].map byteOf,name].flatten=nK head::name):=by
   show _=_;simp[y7]
  clear c9 a1 b7 f7;simp only[DM,H3]at*;go_wp2_with fail
  refine e6.mono ?_;rintro e w9 ⟨rfl,e3⟩;have f4:=z9 e3;clear e3 e6;go_wp2;go_end0
  refine⟨rfl,?_⟩;have h9:=f4.out;rw[f0.out]at h9;rw[HR.out];exact zx.trans ((i7.out.then g7.out e8.out).trans (zf.of_below e7.out)) g7.out h9
def grown (st:R.St)(name:List UInt8)(head:Nat):Int×R.St:=
 if 0≤R.fndI st.brs name then(9,st)else if 6≤st.brs.length then(4,st)else(0,R.headNew st {name:=name,head:=head,work:=R.treeOf st head})
theorem Zy {w:eX}{M O:Nat→Prop}{B:Nat}{st:R.St}{bv cv:eB}{LB:List BrP}{LCm:List (R.Cm×eB×eB)}(h:PSx w M O B st bv cv LB LCm)(s:List UInt8)(hf:R.fnd st.brs s<st.brs.length):
  ∃hl:R.fnd st.brs s<LB.length,Zh LB st s=some ⟨(LB[R.fnd st.brs s]'hl).2.1,0,none⟩∧(LB[R.fnd st.brs s]'hl).1=(st.brs[R.fnd st.brs s]'hf)∧R.headOf st s=(LB[R.fnd st.brs s]'hl).1.head∧R.workOf st s=(LB[R.fnd st.brs s]'hl).1.work:=by
 have hl:R.fnd st.brs s<LB.length:=by rw[←h.brs,aN]at hf;rw[←h.brs];exact hf
 have he:(LB[R.fnd st.brs s]'hl).1=(st.brs[R.fnd st.brs s]'hf):=by simp only[←h.brs,tM]
 refine⟨hl,?_,he,?_,?_⟩
 ·rw[Zh,if_pos hf,j0d hl];rfl
 ·rw[R.headOf,j0d hf,he];rfl
 ·rw[R.workOf,j0d hf,he];rfl
theorem Gj (B:Nat)(st:R.St)(name:List UInt8)(head:Nat)(w:eX)(M O:Nat→Prop)(h:PS w M O B st)(hi:Inv st)(hh:head≤st.cms.length)(b2:name.length≤1000)(b3:st.packed.length≤1000000000000):
  wH sU 54 #[.pointer (some ⟨B,0,none⟩),.string ⟨name.toArray⟩,.int .i64 (head:Int)] w fun e w' =>e= .returned (.int .i64 (grown st name head).1)∧zx w w' M O B (grown st name head).2:=by
 have a1:=h;have a9:=f5 B st name head w M O h hi hh b2 b3;obtain⟨bv,cv,LB,LCm,hP⟩:=h;have a2:=qv hP hi name;by_cases hf:R.fnd st.brs name<st.brs.length
 ·have HR:Hid (grown st name head=(9,st)):=by show _=_;rw[grown,if_pos (by rw[R.fndI,if_pos hf];omega)]
  obtain⟨hl,ha,hx⟩:=Zy hP name hf;clear hx;rw[ha]at a2;generalize(LB[R.fnd st.brs name]'hl).2.1=bb at*;have a7:=z9 a1;clear hP hi hf a1 a9 ha;go_enter I5,I6;go_wp2_with fail
  refine a2.mono ?_;rintro e w1 ⟨rfl,a5⟩;subst a5;go_wp2;go_ret;exact⟨YP (by rw[HR.out]),by rw[HR.out];exact zx.same a7.out (j0g _ _)⟩
 have a6:¬0≤R.fndI st.brs name:=by rw[R.fndI,if_neg hf];omega
 have ha:Zh LB st name=none:=by rw[Zh,if_neg hf]
 rw[ha]at a2;have a3:st.brs.length=LB.length:=by rw[←hP.brs,aN]
 obtain⟨a,cap,a8,hn,hm,a4,a0⟩:=zh hP.row;have c0:=hP.c0;rw[a8]at c0;unfold maxLen at hm;by_cases h6:6≤st.brs.length
 ·have HR:Hid (grown st name head=(4,st)):=by show _=_;rw[grown,if_neg a6,if_pos h6]
  have a7:=z9 a1;have b1 :6≤LB.length:=by omega
  clear hP hi hf a1 a0 a4 a3 h6 a6 a9 ha a8;go_enter I5,I6;go_wp2_with fail
  refine a2.mono ?_;rintro e w1 ⟨rfl,a5⟩;subst a5;go_wp2;go_ret;exact⟨YP (by rw[HR.out]),by rw[HR.out];exact zx.same a7.out (j0g _ _)⟩
 have HR:Hid (grown st name head=(0,xC st name head)):=by show _=_;rw[grown,if_neg a6,if_neg h6,xC,if_neg hf]
 have b1 :¬6≤LB.length:=by omega
 clear hP hi hf a1 a0 a4 a3 h6 a6 ha a8;go_enter I5,I6;go_wp2_with fail
 refine a2.mono ?_;rintro e w1 ⟨rfl,a5⟩;subst a5;go_wp2_with fail
 refine a9.mono ?_;rintro e w2 ⟨rfl,b4⟩;go_wp2;go_ret;exact⟨YP (by rw[HR.out]),by rw[HR.out];exact b4⟩
theorem Od (st:R.St)(name fr:List UInt8):R.made st name fr false=if R.isName name=false then(1,st)else grown st name 0:=by
 unfold R.made grown;simp
theorem fV (st:R.St)(name fr:List UInt8):R.made st name fr true=if R.isName name=false then(1,st)else if R.fndI st.brs fr<0 then(5,st)else grown st name (R.headOf st fr):=by
 unfold R.made grown;simp
theorem kW (s:List UInt8)(w:eX)(hs:s.length≤maxLen):
  wH sU 53 #[.string ⟨s.toArray⟩] w fun e w' =>e= .returned (.bool (R.isName s))∧w' =w:=by
 have h:=OB ⟨s.toArray⟩ w (by simpa[DQ]using hs);simpa using h
theorem C5 (B:Nat)(st:R.St)(name:List UInt8)(w:eX)(M O:Nat→Prop)(h:PS w M O B st)(hi:Inv st)(a3:name.length≤maxLen)(a4:st.packed.length≤1000000000000):
  wH sU 26 #[.pointer (some ⟨B,0,none⟩),.string ⟨name.toArray⟩] w fun e w' =>e= .returned (.int .i64 (R.made st name [] false).1)∧zx w w' M O B (R.made st name [] false).2:=by
 have hn:=kW name w a3;have hg:=fun a2=>Gj B st name 0 w M O h hi (wB _) a2 a4
 rw[Od]
 cases hb:R.isName name
 ·rw[hb]at hn
  simp only[if_true];have a1:=z9 h;clear h hi hb hg;go_enter I7,I8;go_wp2_with fail
  refine hn.mono ?_;rintro e w1 ⟨rfl,a0⟩;subst a0;go_wp2;go_ret;exact⟨rfl,zx.same a1.out (j0g _ _)⟩
 ·replace hg:=hg (by have:=ZN name hb;omega)
  rw[hb]at hn;simp only[I9,if_false];clear h hi hb;go_enter I7,I8;go_wp2_with fail
  refine hn.mono ?_;rintro e w1 ⟨rfl,a0⟩;subst a0;go_wp2_with fail
  refine hg.mono ?_;rintro e w2 ⟨rfl,a5⟩;go_wp2;go_ret;exact⟨rfl,a5⟩
theorem BW (B:Nat)(st:R.St)(name fr:List UInt8)(w:eX)(M O:Nat→Prop)(h:PS w M O B st)(hi:Inv st)(a6:name.length≤maxLen)(a7:st.packed.length≤1000000000000):
  wH sU 29 #[.pointer (some ⟨B,0,none⟩),.string ⟨name.toArray⟩,.string ⟨fr.toArray⟩] w fun e w' =>e= .returned (.int .i64 (R.made st name fr true).1)∧zx w w' M O B (R.made st name fr true).2:=by
 have hn:=kW name w a6;have a1:=h;obtain⟨bv,cv,LB,LCm,hP⟩:=h;have a2:=qv hP hi fr;rw[fV]
 cases hb:R.isName name
 ·rw[hb]at hn
  simp only[if_true];have a4:=z9 a1;clear a1 hi hb hP a2;go_enter IA,IB;go_wp2_with fail
  refine hn.mono ?_;rintro e w1 ⟨rfl,a0⟩;subst a0;go_wp2;go_ret;exact⟨rfl,zx.same a4.out (j0g _ _)⟩
 rw[hb]at hn;simp only[I9,if_false];by_cases hf:R.fnd st.brs fr<st.brs.length
 ·have a3:¬R.fndI st.brs fr<0:=by rw[R.fndI,if_pos hf];omega
  rw[if_neg a3];obtain⟨hl,ha,he,hh,_⟩:=Zy hP fr hf;have a5:R.headOf st fr≤st.cms.length:=by rw[hh,he];exact hi.heads _ (j0c hf)
  have hg:=Gj B st name (R.headOf st fr) w M O a1 hi a5 (by have:=ZN name hb;omega) a7;have e1:=(hP.at_ _ (j0c hl)).c1;rw[ha]at a2;rw[←hh]at e1;generalize(LB[R.fnd st.brs fr]'hl).2.1=bb at*;clear a1 hi hb hP a3 hf he ha hh a5;generalize R.headOf st fr=hd at*;go_enter IA,IB;go_wp2_with fail
  refine hn.mono ?_;rintro e w1 ⟨rfl,a0⟩;subst a0;go_wp2_with fail
  refine a2.mono ?_;rintro e w1 ⟨rfl,a0⟩;subst a0;go_wp2_with fail
  refine hg.mono ?_;rintro e w2 ⟨rfl,a8⟩;go_wp2;go_ret;exact⟨rfl,a8⟩
 ·have a3:R.fndI st.brs fr<0:=by rw[R.fndI,if_neg hf];omega
  rw[if_pos a3];have ha:Zh LB st fr=none:=by rw[Zh,if_neg hf]
  rw[ha]at a2;have a4:=z9 a1;clear a1 hi hb hP a3 hf ha;go_enter IA,IB;go_wp2_with fail
  refine hn.mono ?_;rintro e w1 ⟨rfl,a0⟩;subst a0;go_wp2_with fail
  refine a2.mono ?_;rintro e w1 ⟨rfl,a0⟩;subst a0;go_wp2;go_ret;exact⟨rfl,zx.same a4.out (j0g _ _)⟩
theorem BX (B:Nat)(st:R.St)(name:List UInt8)(w:eX)(M O:Nat→Prop)(h:PS w M O B st)(hi:Inv st)(d9:st.packed.length≤1000000000000):
  wH sU 37 #[.pointer (some ⟨B,0,none⟩),.string ⟨name.toArray⟩] w fun e w' =>e= .returned (.int .i64 (R.dropped st name).1)∧zx w w' M O B (R.dropped st name).2:=by
 have a7:=h;obtain⟨bv,cv,LB,LCm,hP⟩:=h;have a4:=kg hP hi name;rw[QH]at a4;by_cases hf:R.fnd st.brs name<st.brs.length
 ·have a2:¬R.fndI st.brs name<0:=by rw[R.fndI,if_pos hf];omega
  have HR:Hid (R.dropped st name=(0,{st with brs:=st.brs.take (R.fnd st.brs name)++st.brs.drop (R.fnd st.brs name+1),packed:=st.packed++R.record 68 name})):=by show _=_;rw[R.dropped,if_neg a2]
  rw[decide_eq_true hf,←j8 hi.sort name hf]at a4;have b1:st.brs.length=LB.length:=by rw[←hP.brs,aN]
  have b8:R.fnd st.brs name<LB.length:=by omega
  obtain⟨a,cap,a6,hn,hm,b2,a5⟩:=zh hP.row;have c0:=hP.c0;have d6:=hP.fr 0;have d7:=hP.lt B hP.own;have hD:=cg D2 bv LB.length (R.fnd st.brs name) 0 (Xe LB) w hP.row b8 (by
   intro u hu;obtain⟨q,_,rfl⟩:=rR.1 hu;rfl)
  have HP:=z9 hP;have e2:=z9 a6;rw[a6]at hD c0;unfold maxLen at hm;have e3:LB.length≤6:=by have:=hi.many;omega
  have e6:name.length≤8:=by
   have h1:=hi.names _ (j0c hf);rw[R.fnd_name _ _ hf]at h1;exact ZN _ h1
  clear a7 hi hP a2 hf a5 b2 b1;generalize R.fnd st.brs name=k at*;go_enter IC,ID;go_wp2_with fail
  refine a4.mono ?_;rintro e w1 ⟨rfl,b4⟩;subst b4;go_wp2_with fail
  refine hD.mono ?_;rintro e w3 ⟨v3,rfl,b3,a0,a9⟩;rw[←a6]at a0 a9;have b9:bv.ownBlock≠some B:=fun e=>(HP.out.rowO _ e).2 rfl
  have a1:w3.heap[B]? =w1.heap[B]? :=a0.block B d7 (fun e=>b9 e.symm);have d0:=(sD (a:=⟨B,0,none⟩) a1).trans c0;have g0:=(I4 (a:=⟨B,0,none⟩) a1).trans d6;have HK:Hid (zf (fun b=>bv.ownBlock=some b) w1 w3):=⟨a0.os,a0.tape,a0.output,a0.size,fun k hk d8=>a0.block k hk (fun e=>d8 e.symm)⟩
  obtain⟨O1,b7,b5,b6⟩:=Ch (st' :={st with brs:=st.brs.take k++st.brs.drop (k+1)}) HP.out HK.out b8 (by simpa using b3) a9 rfl rfl rfl;obtain⟨a3,c3,e1,_⟩:=zh b3;subst e1;have a8:tH (w3.setCell ⟨B,0,none⟩ (.slice a3 (LB.length-1) c3)).heap.size (w3.setCell ⟨B,0,none⟩ (.slice a3 (LB.length-1) c3)) ((w3.setCell ⟨B,0,none⟩ (.slice a3 (LB.length-1) c3)).alloc (.cells #[.string ⟨name.toArray⟩] 9)):=(j0g _ _).alloc (j0a _) _;have c7:=j7 B 68 68 (by decide) (.slice (some ⟨w3.heap.size,0,none⟩) 1 1) [name] (b7.below a8) (fun _=>False) (yw _ _ (by simp) #[.string ⟨name.toArray⟩] 9 (by simp)) (by simp) (by
   intro i hi;simp only[iT,lA,or_false]at hi;subst hi;omega) d9
  have c9:=z9 b5;have d3:=z9 b6;have c8:=z9 a8;clear a0 a9 b3 hD a1 a6 b9 b7 b5 b6 a8;go_wp2_with fail
  refine c7.mono ?_;rintro e w9 ⟨rfl,c6⟩;have d5:=z9 c6;clear c6 c7;go_wp2;go_ret;refine⟨YP (by rw[HR.out]),?_⟩;rw[HR.out];have h9:=d5.out;simp only[List.flatten_cons,List.flatten_nil,List.append_nil]at h9;exact zx.trans (c9.out.trans (zf.of_below c8.out)) d3.out h9
 ·have a2:R.fndI st.brs name<0:=by rw[R.fndI,if_neg hf];omega
  have HR:Hid (R.dropped st name=(5,st)):=by show _=_;rw[R.dropped,if_pos a2]
  rw[decide_eq_false hf]at a4;have d4:=z9 a7;clear a7 hi hP a2 hf;go_enter IC,ID;go_wp2_with fail
  refine a4.mono ?_;rintro e w1 ⟨rfl,b4⟩;subst b4;go_wp2;go_ret;exact⟨YP (by rw[HR.out]),by rw[HR.out];exact zx.same d4.out (j0g _ _)⟩
theorem Vp {α:Type}(l m:List α)(k:Nat)(h1:k<l.length)(h2:k<m.length)(h:l.take k=m.take k)(e:l[k]=m[k]):l.take (k+1)=m.take (k+1):=by
 rw[nN h1,nN h2,h,e]
theorem cY (v u:eB)(l m:List (List UInt8))(w:eX)(M:Nat→Prop)(h:Rd w M v l.length (l.map S))(h' :Rd w M u m.length (m.map S)):
  wH sU 181 #[v,u] w fun e w' =>e= .returned (.bool (decide (l=m)))∧tH w.heap.size w w' :=by
 obtain⟨a,c,rfl,hn,hm,hc⟩:=h;obtain⟨a',c',rfl,b9,b8,b3⟩:=h';unfold maxLen at hm b8;have HC:=z4 hc;have b5 :=z4 b3;clear hc b3;by_cases hl:l.length=m.length
 ·have b0:((l.length:Int) !=(m.length:Int))=false:=by simp[hl]
  have HL:=z4 hl;have a4:(l.length:Int)=(m.length:Int):=by omega
  clear hl;obtain⟨n,a2⟩:∃n,n=m.length:=⟨_,rfl⟩
  have a5:l.length=n:=by rw[a2];exact HL.out
  rw[←a2]at b9 b0 a4⊢;rw[a5]at hn b0 a4⊢;have a8:=z4 a2;have a7:=z4 a5;clear a2 a5 b0 a4;go_enter IE,IF;go_wp2;go_loopw [13] (fun i wr=>∃k q:Nat,k≤n∧i= .int .i64 k∧l.take k=m.take k∧wr=w.drewN q) (fun i _=>n-(intOf i).toNat)
  case atStart=>exact⟨0,0,wB _,rfl,by simp,rfl⟩
  case round=>
   obtain⟨k,q,hk,rfl,b4,rfl⟩:=hrel;have a9:=z4 b4;clear b4;by_cases c6:k<n
   ·have a0:k<l.length:=by have:=a7.out;omega
    have a1:k<m.length:=by have:=a8.out;omega
    obtain⟨b,off,rfl,_,_,h1⟩:=HC.out (by omega);obtain⟨b',a6,rfl,_,_,h2⟩:=b5.out (by omega);have d1:w.cell? ⟨b,off+k,none⟩=some (.string ⟨(l[k]'a0).toArray⟩):=h1 k _ (by simp[a0,S]);have d2:w.cell? ⟨b',a6 +k,none⟩=some (.string ⟨(m[k]'a1).toArray⟩):=h2 k _ (by simp[a1,S]);clear h1 h2;by_cases he:l[k]'a0=m[k]'a1
    ·have b7:=z4 (Vp l m k a0 a1 a9.out he)
     have b1:((l[k]'a0)==(m[k]'a1))=true:=by simpa using he
     have b2:((l[k]'a0) !=(m[k]'a1))=false:=by simpa using he
     clear he;generalize l[k]'a0=x at*;generalize m[k]'a1=y at*;go_wp2;go_quiet (fail)
     go_wp2;go_roundw
     case rel=>exact⟨k+1,_,by omega,by go_num,b7.out,by first|rfl|exact World.drewN_drewN _ _ _⟩
     case measure=>simp[intOf];omega
    ·have a3:Hid (decide (l=m)=false):=by
      refine decide_eq_false fun e=>he ?_
      subst e;rfl
     have b1:((l[k]'a0)==(m[k]'a1))=false:=by simpa using he
     have b2:((l[k]'a0) !=(m[k]'a1))=true:=by simpa using he
     clear he;generalize l[k]'a0=x at*;generalize m[k]'a1=y at*;go_wp2;go_quiet (fail)
     go_wp2;go_ret;rw[a3.out];exact⟨rfl,below_drewN (below_drewN (j0g _ _) _) _⟩
   ·obtain rfl:k=n:=by omega
    have b6:Hid (decide (l=m)=true):=by
     refine decide_eq_true ?_;have:=a9.out;rwa[nR (by have:=a7.out;omega),nR (by have:=a8.out;omega)]at this
    go_wp2;go_ret;rw[b6.out];exact⟨rfl,below_drewN (j0g _ _) _⟩
 ·have b0:((l.length:Int) !=(m.length:Int))=true:=by simp;omega
  have b1:((l.length:Int)==(m.length:Int))=false:=by simp;omega
  have a3:Hid (decide (l=m)=false):=decide_eq_false fun e=>hl (by rw[e])
  clear hl;go_enter IE,IF;go_wp2;go_ret;rw[a3.out];exact⟨rfl,j0g _ _⟩
def Yx (x y:R.Leaf):Bool:=decide (pk x=pk y∧x.n=y.n∧x.text=y.text∧x.items=y.items)
theorem oN {x y:R.Leaf}(hx:OkL x)(hy:OkL y)(hp:x.path=y.path):Yx x y=true↔x=y:=by
 constructor
 ·intro h
  obtain⟨h1,h2,h3,h4⟩:=of_decide_eq_true h;obtain⟨p,k,n,t,it⟩:=x;obtain⟨p',k',n',t',a0⟩:=y;simp only at hp h2 h3 h4;subst hp h2 h3 h4;have hk:k=k' :=by
   rcases hx.kind with e|e|e<;>rcases hy.kind with e' |e' |e' <;>simp only at e e' <;>simp[pk,e.1,e'.1]at h1<;>rw[e.1,e'.1]
  rw[hk]
 ·intro h
  subst h;exact decide_eq_true ⟨rfl,rfl,rfl,rfl⟩
theorem UL (x y:R.Leaf)(ia ja:Option Addr)(ic jc:Nat)(w:eX)(M:Nat→Prop)(h:It w M (x,.slice ia x.items.length ic))(h' :It w M (y,.slice ja y.items.length jc)):
  wH sU 132 #[.agg #[.int .i64 (pk x),.int .i64 x.n,.string ⟨x.text.toArray⟩,.slice ia x.items.length ic],.agg #[.int .i64 (pk y),.int .i64 y.n,.string ⟨y.text.toArray⟩,.slice ja y.items.length jc]] w fun e w' =>e= .returned (.bool (Yx x y))∧tH w.heap.size w w' :=by
 have HE:Hid (∀W,tH w.heap.size w W→wH sU 181 #[.slice ia x.items.length ic,.slice ja y.items.length jc] W fun e w' =>e= .returned (.bool (decide (x.items=y.items)))∧tH W.heap.size W w'):=fun W hW=>cY _ _ x.items y.items W M (Rd.below h hW) (Rd.below h' hW)
 clear h h';by_cases h1:pk x=pk y
 ·by_cases h2:x.n=y.n
  ·by_cases h3:x.text=y.text
   ·have HS:Hid (Yx x y=decide (x.items=y.items)):=by show _=_;simp[Yx,h1,h2,h3]
    have e1:(pk x==pk y)=true:=by simpa using h1
    have e2:(x.n==y.n)=true:=by simpa using h2
    have e3:(x.text==y.text)=true:=by simpa using h3
    have HB:Hid (tH w.heap.size w ((w.alloc (.cells #[.int .i64 (pk x),.int .i64 x.n,.string ⟨x.text.toArray⟩,.slice ia x.items.length ic] 137)).alloc (.cells #[.int .i64 (pk y),.int .i64 y.n,.string ⟨y.text.toArray⟩,.slice ja y.items.length jc] 137))):=((j0g _ _).alloc (j0a _) _).alloc (by simp) _;clear h1 h2 h3;generalize decide (x.items=y.items)=bb at*;go_enter IG,IH;go_wp2_with fail
    refine(HE.out _ HB.out).mono ?_;rintro e w1 ⟨rfl,a0⟩;have a1:Hid (tH w.heap.size w w1):=HB.out.trans (a0.mono HB.out.size);clear a0
    cases bb
    all_goals
     go_wp2;go_ret;rw[HS.out];exact⟨zA (by simp),a1.out⟩
   ·have HS:Hid (Yx x y=false):=by show _=_;simp[Yx,h3]
    have e1:(pk x==pk y)=true:=by simpa using h1
    have e2:(x.n==y.n)=true:=by simpa using h2
    have e3:(x.text==y.text)=false:=by simpa using h3
    clear h1 h2 h3;go_enter IG,IH;go_wp2;go_ret;rw[HS.out];exact⟨zA (by simp),((j0g _ _).alloc (j0a _) _).alloc (by simp) _⟩
  ·have HS:Hid (Yx x y=false):=by show _=_;simp[Yx,h2]
   have e1:(pk x==pk y)=true:=by simpa using h1
   have e2:(x.n==y.n)=false:=by simpa using h2
   clear h1 h2;go_enter IG,IH;go_wp2;go_ret;rw[HS.out];exact⟨zA (by simp),((j0g _ _).alloc (j0a _) _).alloc (by simp) _⟩
 ·have HS:Hid (Yx x y=false):=by show _=_;simp[Yx,h1]
  have e1:(pk x==pk y)=false:=by simpa using h1
  clear h1;go_enter IG,IH;go_wp2;go_ret;rw[HS.out];exact⟨zA (by simp),((j0g _ _).alloc (j0a _) _).alloc (by simp) _⟩
theorem bG (x y:R.Leaf)(ia ja:Option Addr)(ic jc:Nat)(w:eX)(M:Nat→Prop)(h:It w M (x,.slice ia x.items.length ic))(h' :It w M (y,.slice ja y.items.length jc)):
  wH sU 131 #[.agg #[.string ⟨x.path.toArray⟩,.int .i64 (pk x),.int .i64 x.n,.string ⟨x.text.toArray⟩,.slice ia x.items.length ic],.agg #[.string ⟨y.path.toArray⟩,.int .i64 (pk y),.int .i64 y.n,.string ⟨y.text.toArray⟩,.slice ja y.items.length jc]] w fun e w' =>e= .returned (.bool ((x.path==y.path)&&Yx x y))∧tH w.heap.size w w' :=by
 have HE:Hid (∀W,tH w.heap.size w W→wH sU 132 #[.agg #[.int .i64 (pk x),.int .i64 x.n,.string ⟨x.text.toArray⟩,.slice ia x.items.length ic],.agg #[.int .i64 (pk y),.int .i64 y.n,.string ⟨y.text.toArray⟩,.slice ja y.items.length jc]] W fun e w' =>e= .returned (.bool (Yx x y))∧tH W.heap.size W w'):=fun W hW=>UL x y ia ja ic jc W M (Rd.below h hW) (Rd.below h' hW)
 have HB:Hid (tH w.heap.size w ((w.alloc (.cells #[.string ⟨x.path.toArray⟩,.int .i64 (pk x),.int .i64 x.n,.string ⟨x.text.toArray⟩,.slice ia x.items.length ic] 139)).alloc (.cells #[.string ⟨y.path.toArray⟩,.int .i64 (pk y),.int .i64 y.n,.string ⟨y.text.toArray⟩,.slice ja y.items.length jc] 139))):=((j0g _ _).alloc (j0a _) _).alloc (by simp) _;clear h h'
 cases e0:(x.path==y.path)
 ·go_enter II,IJ
  go_wp2;go_ret;exact⟨zA (by simp),HB.out⟩
 ·generalize Yx x y=bb at*
  go_enter II,IJ;go_wp2_with fail
  refine(HE.out _ HB.out).mono ?_;rintro e w1 ⟨rfl,a0⟩;have a1:Hid (tH w.heap.size w w1):=HB.out.trans (a0.mono HB.out.size);clear a0
  cases bb
  all_goals
   go_wp2;go_ret;exact⟨zA (by simp),a1.out⟩
theorem OD (v u:eB)(t s:List R.Leaf)(w:eX)(M:Nat→Prop)(h:PT w M v t)(h' :PT w M u s)(ht:∀x∈t,OkL x)(hs:∀x∈s,OkL x):
  wH sU 130 #[v,u,.func (.func 131) #[] #[]] w fun e w' =>∃b:Bool,(b=true↔t=s)∧e= .returned (.bool b)∧tH w.heap.size w w' :=by
 obtain⟨L,hL,⟨a,c,rfl,hn,hm,hc⟩,hI⟩:=h;obtain⟨L',b2,⟨a',c',rfl,f7,f6,d3⟩,c7⟩:=h';unfold maxLen at hm f6;have a5:t.length=L.length:=by rw[←hL,aN]
 have a6:s.length=L'.length:=by rw[←b2,aN]
 have HC:=z4 hc;have e6 :=z4 d3;have HI:=z4 hI;have e8 :=z4 c7;have HL:=z4 hL;have e9 :=z4 b2;have HT:=z4 ht;have HS:=z4 hs;clear hc d3 hI c7 hL b2 ht hs;by_cases hl:L.length=L'.length
 ·obtain⟨n,a7⟩:∃n,n=L'.length:=⟨_,rfl⟩
  have b3:L.length=n:=by rw[a7];exact hl
  rw[←a7]at f7 ⊢;rw[b3]at hn⊢;have b8:=z4 a7;have b7:=z4 b3;have a3:=z4 a5;have a2:=z4 a6;clear a7 b3 hl a5 a6;go_enter IK,IL;go_wp2;go_loopw [17] (fun i wr=>∃k:Nat,k≤n∧i= .int .i64 k∧t.take k=s.take k∧tH w.heap.size w wr) (fun i _=>n-(intOf i).toNat)
  case atStart=>exact⟨0,wB _,rfl,by simp,j0g _ _⟩
  case round=>
   obtain⟨k,hk,rfl,d9,hb⟩:=hrel;have c6:=z4 d9;have HB:=z4 hb;clear d9;by_cases a5:k<n
   ·have d6:k<L.length:=by have:=b7.out;omega
    have d7:k<L'.length:=by have:=b8.out;omega
    obtain⟨b,off,rfl,a4,_,h1⟩:=HC.out (by omega);obtain⟨b',f9,rfl,a0,_,h2⟩:=e6.out (by omega);obtain⟨x,ia,ic,f3,d4,c0,c1,c2,c3,c4⟩:=qs HI.out h1 k d6;obtain⟨y,ja,jc,f4,d5,e0,e1,e2,e3,e4⟩:=qs e8.out h2 k d7;have b5:t[k]'(by have:=a3.out;omega)=x:=by
     have e:t[k]? =(L.map (·.1))[k]? :=by rw[HL.out]
     rw[sZ,j0d d6,j0d (by have:=a3.out;omega),f3.out]at e;exact Option.some.inj e
    have b4:s[k]'(by have:=a2.out;omega)=y:=by
     have e:s[k]? =(L'.map (·.1))[k]? :=by rw[e9.out]
     rw[sZ,j0d d7,j0d (by have:=a2.out;omega),f4.out]at e;exact Option.some.inj e
    have a8:OkL x:=by rw[←b5];exact HT.out _ (j0c _)
    have d8:OkL y:=by rw[←b4];exact HS.out _ (j0c _)
    have up:∀(bb o:Nat) (u:eB),bb<w.heap.size→w.cell? ⟨bb,o,none⟩=some u→wr.cell? ⟨bb,o,none⟩=some u:=fun bb o u h1 h2=>by
     rw[hb.cell (p:=⟨bb,o,none⟩) h1];exact h2
    have c0:=up _ _ _ a4 c0;have c1:=up _ _ _ a4 c1;have c2:=up _ _ _ a4 c2;have c3:=up _ _ _ a4 c3;have c4:=up _ _ _ a4 c4;have e0:=up _ _ _ a0 e0;have e1:=up _ _ _ a0 e1;have e2:=up _ _ _ a0 e2;have e3:=up _ _ _ a0 e3;have e4:=up _ _ _ a0 e4;have f8:=hb.size;have g0:b<wr.heap.size:=by omega
    have f5 :b' <wr.heap.size:=by omega
    have b9:Hid (∀W,tH w.heap.size w W→wH sU 131 #[.agg #[.string ⟨x.path.toArray⟩,.int .i64 (pk x),.int .i64 x.n,.string ⟨x.text.toArray⟩,.slice ia x.items.length ic],.agg #[.string ⟨y.path.toArray⟩,.int .i64 (pk y),.int .i64 y.n,.string ⟨y.text.toArray⟩,.slice ja y.items.length jc]] W fun e w' =>e= .returned (.bool ((x.path==y.path)&&Yx x y))∧tH W.heap.size W w'):=fun W hW=>bG x y ia ja ic jc W M (Rd.below d4 hW) (Rd.below d5 hW)
    have a9:Hid (tH w.heap.size w ((wr.alloc (.cells #[.string ⟨x.path.toArray⟩,.int .i64 (pk x),.int .i64 x.n,.string ⟨x.text.toArray⟩,.slice ia x.items.length ic] 139)).alloc (.cells #[.string ⟨y.path.toArray⟩,.int .i64 (pk y),.int .i64 y.n,.string ⟨y.text.toArray⟩,.slice ja y.items.length jc] 139))):=(hb.alloc f8 _).alloc (by simp;omega) _;have a1:Hid ((((x.path==y.path)&&Yx x y)=true↔x=y)∧t[k]'(by have:=a3.out;omega)=x∧s[k]'(by have:=a2.out;omega)=y):=by
     refine⟨?_,b5,b4⟩;rw[Bool.and_eq_true,beq_iff_eq];constructor
     ·rintro⟨h1,h2⟩
      exact(oN a8 d8 h1).1 h2
     ·intro e
      subst e;exact⟨rfl,(oN a8 a8 rfl).2 rfl⟩
    obtain⟨bb,c9⟩:∃bb,bb=((x.path==y.path)&&Yx x y):=⟨_,rfl⟩
    rw[←c9]at a1 b9;clear h1 h2 up d4 d5 b5 b4 hb a8 d8 c9;go_wp2_with fail
    refine(b9.out _ a9.out).mono ?_;rintro e w5 ⟨rfl,c8⟩;have b6:Hid (tH w.heap.size w w5):=a9.out.trans (c8.mono a9.out.size);clear c8
    cases bb
    ·go_wp2
     go_ret;refine⟨false,⟨fun h=>(by cases h),fun h=> ?_⟩,rfl,b6.out⟩;subst h;have h1:=a1.out.2.1;have h2:=a1.out.2.2;exact a1.out.1.2 (h1.symm.trans h2)
    ·go_wp2
     go_roundw
     case rel=>
      refine⟨k+1,by omega,by go_num,?_,b6.out⟩;refine Vp t s k (by have:=a3.out;omega) (by have:=a2.out;omega) c6.out ?_;rw[a1.out.2.1,a1.out.2.2];exact a1.out.1.1 (by first|trivial|rfl)
     case measure=>simp[intOf];omega
   ·obtain rfl:k=n:=by omega
    have e7:Hid (t=s):=by
     have:=c6.out;rwa[nR (by have:=a3.out;have:=b7.out;omega),nR (by have:=a2.out;have:=b8.out;omega)]at this
    clear hb;go_wp2;go_ret;exact⟨true,⟨fun _=>e7.out,fun _=>rfl⟩,rfl,HB.out⟩
 ·have b0:((L.length:Int) !=(L'.length:Int))=true:=by simp;omega
  have b1:((L.length:Int)==(L'.length:Int))=false:=by simp;omega
  have f0:Hid (t≠s):=fun e=>hl (by rw[←a5,←a6,e])
  clear hl a5 a6;go_enter IK,IL;go_wp2;go_ret;exact⟨false,⟨fun h=>(by cases h),fun h=>absurd h f0.out⟩,rfl,j0g _ _⟩
theorem bF (v u:eB)(t s:List R.Leaf)(w:eX)(M:Nat→Prop)(h:PT w M v t)(h' :PT w M u s)(ht:∀x∈t,OkL x)(hs:∀x∈s,OkL x):
  wH sU 83 #[v,u] w fun e w' =>∃b:Bool,(b=true↔t=s)∧e= .returned (.bool b)∧tH w.heap.size w w' :=by
 have HE:=z4 (OD v u t s w M h h' ht hs);clear h h' ht hs;go_enter Tryz.func83,Tryz.ntmps83;go_wp2_with fail
 refine HE.out.mono ?_;rintro e w1 ⟨b,a1,rfl,a0⟩;go_wp2;go_ret;exact⟨b,a1,rfl,a0⟩
theorem Tryz.info114:(Tryz.prog.info? 114).map (fun i=>(i.zero,i.size,i.bytes))=some (some (.agg #[.slice none 0 0,.slice none 0 0]),2,48):=by kernel_rfl
theorem gc (L:List (R.Cm×eB×eB))(p:R.Cm×eB×eB):YJ (L++ [p])=YJ L++ [p.2.1,p.2.2]:=by simp[YJ]
theorem uf {w w5:eX}{M O:Nat→Prop}{B:Nat}{st:R.St}{bv cv:eB}{LB:List BrP}{LCm:List (R.Cm×eB×eB)}(hP:PSx w M O B st bv cv LB LCm){v3 tv pv:eB}{c:R.Cm}
  (hK:zf (fun b=>cv.ownBlock=some b) w w5)(a0:w5.ownsRow 0 114 2 v3 (LCm.length+1) (YJ LCm++ [pv,tv]))(a2:∀g,v3.ownBlock=some g→cv.ownBlock=some g∨w.heap.size≤g)
  (b4:PT w5 (fun b=>M b∨(O b∨v3.ownBlock=some b)) tv c.tree)(b3:Rd w5 (fun b=>M b∨(O b∨v3.ownBlock=some b)) pv c.parents.length (c.parents.map fun(n:Nat)=>Value.int .i64 (n:Int))):
  PSx (w5.setCell ⟨B,1,none⟩ v3) (fun b=>M b∨(O b∨v3.ownBlock=some b)) (fun b=>O b∨v3.ownBlock=some b) B {st with cms:=st.cms++ [c]} bv v3 LB (LCm++ [(c,pv,tv)])∧zf O w (w5.setCell ⟨B,1,none⟩ v3)∧(∀b,(O b∨v3.ownBlock=some b)→O b∨w.heap.size≤b):=by
 have a8:=hP.lt B hP.own;have a6:cv.ownBlock≠some B:=fun e=>(hP.crowO B e).2.1 rfl
 have b5:=hK.size;have a1:v3.ownBlock≠some B:=fun e=>by
  rcases a2 B e with e|e
  ·exact a6 e
  ·omega
 have K5:zf (fun b=>b=B) w5 (w5.setCell ⟨B,1,none⟩ v3):=(zf.refl (fun b=>b=B) w5).setCell (p:=⟨B,1,none⟩) (.inl rfl) v3;have Kf:zf (fun b=>cv.ownBlock=some b∨b=B) w (w5.setCell ⟨B,1,none⟩ v3):=(hK.mono (fun b e=> .inl e)).setCell (p:=⟨B,1,none⟩) (.inl (.inr rfl)) v3;have a3:∀o,w5.cell? ⟨B,o,none⟩=w.cell? ⟨B,o,none⟩:=fun o=>hK.cell (p:=⟨B,o,none⟩) a8 a6
 have a5:∀b,(cv.ownBlock=some b∨b=B)→M b:=fun b e=>by
  rcases e with e|e
  ·exact hP.sub b (hP.crowO b e).1
  ·rw[e];exact hP.sub B hP.own
 have b1 :∀b,(O b∨v3.ownBlock=some b)→O b∨w.heap.size≤b:=fun b e=>by
  rcases e with e|e
  ·exact .inl e
  ·rcases a2 b e with e|e
   ·exact .inl (hP.crowO b e).1
   ·exact .inr e
 have a4 :∀b,(M b∨(O b∨v3.ownBlock=some b))→M b∨w.heap.size≤b:=fun b e=>by
  rcases e with e|e
  ·exact .inl e
  ·rcases b1 b e with e|e
   ·exact .inl (hP.sub b e)
   ·exact .inr e
 have a7:∀b,b=B→(M b∨(O b∨v3.ownBlock=some b)):=fun b e=> .inl (by rw[e];exact hP.sub B hP.own)
 have a9:∀b,(M b∨(O b∨v3.ownBlock=some b))→(M b∨(O b∨v3.ownBlock=some b))∨w5.heap.size≤b:=fun b e=> .inl e
 have b2:∀g,O g→cv.ownBlock≠some g→v3.ownBlock≠some g:=fun g h1 h2 e=>by
  rcases a2 g e with e|e
  ·exact h2 e
  ·have:=hP.lt g h1;omega
 refine⟨⟨fun b e=> .inr e,fun b e=> ?_,.inl hP.own,?_,?_,fun o=> ?_,hP.brs,zr hP.row Kf (fun g e e2=> ?_),fun g e=>⟨.inl (hP.rowO g e).1,(hP.rowO g e).2⟩,fun p hp=>(hP.at_ p hp).kept Kf (hP.lt _ (hP.blk p hp).1) (fun e=> ?_) a5 a4,fun p hp=>⟨.inl (hP.blk p hp).1,(hP.blk p hp).2.1,(hP.blk p hp).2.2.1,b2 _ (hP.blk p hp).1 (hP.blk p hp).2.2.2⟩,hP.dist,?_,?_,fun g e=>⟨.inr e,fun e2=>a1 (by rw[←e2];exact e),fun e2=> ?_⟩,fun p hp=> ?_,fun p hp=> ?_,?_⟩,Kf.mono (fun b e=> ?_),b1⟩
 ·rcases e with e|e
  ·exact j0b (hP.lt b e) Kf.size
  ·exact j0b (a0.lt b e).2 K5.size
 ·rw[zN _ _ _ _ _ (by omega),a3];exact hP.c0
 ·exact Yh _ _ _ _ cv (by rw[a3];exact hP.c1)
 ·rw[tI,hK.frozen (p:=⟨B,o,none⟩) a8 a6];exact hP.fr o
 ·rcases e2 with e2|e2
  ·exact(hP.crowO g e2).2.2 e
  ·exact(hP.rowO g e).2 e2
 ·rcases e with e|e
  ·exact(hP.blk p hp).2.2.2 e
  ·exact(hP.blk p hp).2.1 e
 ·rw[tB,hP.cms];rfl
 ·rw[nL,List.length_singleton,gc]
  exact zr a0 K5 (fun g e e2=>a1 (by rw[←e2];exact e))
 ·rcases a2 g e with e3|e3
  ·exact(hP.crowO g e3).2.2 e2
  ·have:=hP.lt g (hP.rowO g e2).1;omega
 ·rcases iZ.1 hp with hp|hp
  ·exact(hP.ctree p hp).step Kf a5 a4
  ·rw[iV.1 hp];exact b4.step K5 a7 a9
 ·rcases iZ.1 hp with hp|hp
  ·exact(hP.cpar p hp).step Kf a5 a4
  ·rw[iV.1 hp];exact b3.step K5 a7 a9
 ·obtain⟨kv,hk⟩:=hP.pk
  refine⟨kv,by rw[zN _ _ _ _ _ (by omega),a3];exact hk.c2,zr hk.row Kf (fun g e e2=> ?_),fun g e=>⟨.inl (hk.rowO g e).1,(hk.rowO g e).2.1,(hk.rowO g e).2.2.1,b2 g (hk.rowO g e).1 (hk.rowO g e).2.2.2.1,(hk.rowO g e).2.2.2.2⟩⟩;rcases e2 with e2|e2
  ·exact(hk.rowO g e).2.2.2.1 e2
  ·exact(hk.rowO g e).2.1 e2
 ·rcases e with e|e
  ·exact(hP.crowO b e).1
  ·rw[e];exact hP.own
theorem PS.cms1 {w:eX}{M O:Nat→Prop}{B:Nat}{st:R.St}(h:PS w M O B st):∃a c,w.cell? ⟨B,1,none⟩=some (.slice a st.cms.length c)∧st.cms.length≤c∧c≤maxLen:=by
 obtain⟨bv,cv,LB,LCm,hR⟩:=h;obtain⟨a,c,hv,h1,h2,_⟩:=zh hR.crow;have hl:LCm.length=st.cms.length:=by rw[←hR.cms,aN]
 rw[hl]at hv h1;exact⟨a,c,by rw[←hv];exact hR.c1,h1,h2⟩
theorem BR {w:eX}{M O:Nat→Prop}{B:Nat}{st:R.St}(h:PS w M O B st)(c:R.Cm)(pa:Option Addr)(pc:Nat)(ta:Option Addr)(tn tc:Nat)(g9:PT w M (.slice ta tn tc) c.tree)(f4:Rd w M (.slice pa c.parents.length pc) c.parents.length (Ym c.parents))(hM:∀b,M b→b<w.heap.size)(hT:OkT c.tree)(h2:c.parents.length≤2)(hl:st.cms.length<60)(l4:st.packed.length≤1000000000000)(hG:Zp w)(h6:∀b,O b→6≤b):
  wH sU 97 #[.pointer (some ⟨B,0,none⟩),.agg #[.slice pa c.parents.length pc,.slice ta tn tc]] w fun e w' =>e= .returned (.int .i64 ((st.cms.length+1:Nat):Int))∧zx w w' M O B (R.keepC st c):=by
 obtain⟨bv,cv,LB,LCm,hP⟩:=h;have g2:=hP.lt B hP.own;have c1:=hP.c1;obtain⟨ca,cc,b7,k7,k8,k9,l0⟩:=zh hP.crow;have d8:LCm.length=st.cms.length:=by rw[←hP.cms,aN]
 obtain⟨n0,d5⟩:∃n0,n0=st.cms.length:=⟨_,rfl⟩
 rw[d8,←d5]at b7 k7;rw[←d5]at hl⊢;rw[b7]at c1;unfold maxLen at k8;have a5:=hP.crow;rw[d8,←d5,b7]at a5;have d4:∀g,(Value.slice ca n0 cc).ownBlock=some g→O g∧g≠B:=fun g e=>by
  have:=hP.crowO g (by rw[b7];exact e);exact⟨this.1,this.2.1⟩
 have HP:=z4 hP;have f7:=z4 b7;have f8:=z4 d5;have i8:=z4 d8;have g1:=z4 g9;have f9:=z4 f4;have HG:=z4 hG;have HT:=z4 hT;have c7:=hP.sub;have e7:=hP.lt;obtain⟨np,f3⟩:∃np,np=c.parents.length:=⟨_,rfl⟩
 rw[←f3]at h2⊢;have b8:=z4 f3;have f5:np≤pc∧pc≤maxLen:=by
  obtain⟨a,k,e,h1,h2,_⟩:=f4;injection e with _ _ e
  subst e;exact⟨by omega,h2⟩
 have i5:Hid (∀o,w.frozen? ⟨B,o,none⟩=false):=hP.fr;unfold maxLen at f5;obtain⟨i0,k5,l5,l6,l7⟩:=info_parts Tryz.info114;have g5:(Value.slice ca n0 cc).ownBlock≠some B:=fun e=>(d4 B e).2 rfl
 clear hP b7 k9 l0 d5 d8 g9 f4 hG hT f3;go_enter IM,IN;go_wp2;have d3:tH w.heap.size w (w.alloc (Obj.cells #[.slice pa np pc,.slice ta tn tc] 114)):=(j0g _ _).alloc (j0a _) _;have i2:(w.alloc (Obj.cells #[.slice pa np pc,.slice ta tn tc] 114)).heap.size=w.heap.size+1:=by simp
 have x0:(w.alloc (Obj.cells #[.slice pa np pc,.slice ta tn tc] 114)).cell? ⟨w.heap.size,0,none⟩=some (.slice pa np pc):=by simp
 have x1:(w.alloc (Obj.cells #[.slice pa np pc,.slice ta tn tc] 114)).cell? ⟨w.heap.size,1,none⟩=some (.slice ta tn tc):=by simp
 generalize w.alloc (Obj.cells #[.slice pa np pc,.slice ta tn tc] 114)=W1 at*;have sB:=(d3.cell (p:=⟨B,1,none⟩) g2).trans c1;have so:=Zl a5 d3;have fB:∀o,W1.frozen? ⟨B,o,none⟩=false:=fun o=>(d3.frozen (p:=⟨B,o,none⟩) g2).trans (i5.out o)
 have rB:∀o,(W1.alloc o).cell? ⟨B,1,none⟩=some (.slice ca n0 cc):=fun o=>by rw[IP _ _ _ (by omega)];exact sB
 have r0:∀o,(W1.alloc o).cell? ⟨w.heap.size,0,none⟩=some (.slice pa np pc):=fun o=>by rw[IP _ _ _ (by omega)];exact x0
 have r1:∀o,(W1.alloc o).cell? ⟨w.heap.size,1,none⟩=some (.slice ta tn tc):=fun o=>by rw[IP _ _ _ (by omega)];exact x1
 have j3:Hid (∀o j,(W1.alloc o).frozen? ⟨B,j,none⟩=false):=fun o j=>by rw[IQ _ _ _ (by omega)];exact fB j
 have j2:=z4 rB;have j0:=z4 r0;have j1:=z4 r1;have d6:=z4 d3;have j8:=z4 i2;have m6:w.heap.size<W1.heap.size:=by omega
 have h0:(Value.slice ca n0 cc).ownBlock≠some w.heap.size:=fun e=>by have:=e7 _ (d4 _ e).1;omega
 clear d3 i2 fB a5 c1;go_region_law ((refine step_append_lies _ (by rfl) _ _ 99 (by rfl) 0 114 i0 (.agg #[.slice none 0 0,.slice none 0 0]) 2 48 IR k5 l5 l6 l7 rfl (by decide) (.slice ca n0 cc) n0 (YJ LCm) (by rfl) (by exact so.alloc _) ⟨W1.heap.size,0,none⟩ 1 1 [.slice pa np pc,.slice ta tn tc] (by rfl) rfl (by exact y6 W1 #[.slice pa np pc,.slice ta tn tc] 114) (by intro u hu;simp at hu;rcases hu with rfl|rfl<;>rfl) (by decide) (by unfold maxLen;omega) (by omega) (wB _) (W1.heap.size+1) (by simp) ?_;intro gg a6 w8 g8 a7 c9 f0;have c8:w8.cell? ⟨B,1,none⟩=some (.slice ca n0 cc):=a7.cell (by exact j2.out _) (fun e=>g5 e.symm);have j9:w8.frozen? ⟨B,1,none⟩=false:=(I4 (a:=⟨B,1,none⟩) (a7.block B (by simp;omega) (fun e=>g5 e.symm))).trans (by exact j3.out _ 1);have y0:w8.cell? ⟨w.heap.size,0,none⟩=some (.slice pa np pc):=a7.cell (by exact j0.out _) (fun e=>h0 e.symm);have y1:w8.cell? ⟨w.heap.size,1,none⟩=some (.slice ta tn tc):=a7.cell (by exact j1.out _) (fun e=>h0 e.symm)))
 all_goals
  have m3:W1.heap.size+1≤w8.heap.size:=by have:=a7.size;simp at this;omega
  have a9:∀k,k<W1.heap.size→(Value.slice ca n0 cc).ownBlock≠some k→w8.heap[k]? =W1.heap[k]? :=fun k hk l3=>by
   rw[a7.block k (by simp;omega) (fun e=>l3 e.symm)];exact heap_alloc_old W1 _ hk
  have m4:=j8.out;have d7:zf (fun b=>(Value.slice ca n0 cc).ownBlock=some b) w w8:=⟨a7.os.trans d6.out.os,a7.tape.trans d6.out.tape,a7.output.trans d6.out.output,by omega,fun k hk hn=>by
   rw[a9 k (by omega) hn];exact d6.out.block k hk⟩
  have e3:∀b,(Value.slice (some ⟨gg,0,none⟩) (n0+1) a6).ownBlock=some b→(Value.slice ca n0 cc).ownBlock=some b∨W1.heap.size<b:=fun b e=>by
   have e' :gg=b:=Option.some.inj e;rcases c9 with h1|h1
   ·exact .inl (by rw[←e'];exact h1)
   ·exact .inr (by omega)
  have b6:∀b,(M b∨(O b∨(Value.slice (some ⟨gg,0,none⟩) (n0+1) a6).ownBlock=some b))→M b∨w.heap.size≤b:=fun b e=>by
   rcases e with e|e|e
   ·exact .inl e
   ·exact .inl (c7 b e)
   ·rcases e3 b e with e|e
    ·exact .inl (c7 b (d4 b e).1)
    ·exact .inr (by omega)
  have g6:∀b,(Value.slice ca n0 cc).ownBlock=some b→M b:=fun b e=>c7 b (d4 b e).1
  obtain⟨e2,a2,d9⟩:=uf (c:=c) (v3:= .slice (some ⟨gg,0,none⟩) (n0+1) a6) (tv:= .slice ta tn tc) (pv:= .slice pa np pc) HP.out (w5:=w8) (by rw[f7.out];exact d7) (by rw[i8.out,←f8.out];exact g8) (fun g e=>by
   rw[f7.out];rcases e3 g e with e|e
   ·exact .inl e
   ·exact .inr (by omega)) (g1.out.step d7 g6 b6) (by have:=f9.out.step d7 g6 b6;rw[←b8.out]at this⊢;exact this)
  have b3:=f9.out.step (M' :=fun b=>M b∨(O b∨(Value.slice (some ⟨gg,0,none⟩) (n0+1) a6).ownBlock=some b)) a2 c7 b6;have b4:=g1.out.step (M' :=fun b=>M b∨(O b∨(Value.slice (some ⟨gg,0,none⟩) (n0+1) a6).ownBlock=some b)) a2 c7 b6;have g3:=HG.out.kept a2 h6;have t0:(w8.setCell ⟨B,1,none⟩ (.slice (some ⟨gg,0,none⟩) (n0+1) a6)).cell? ⟨w.heap.size,0,none⟩=some (.slice pa np pc):=((zf.refl (fun b=>b=B) w8).setCell (p:=⟨B,1,none⟩) (.inl rfl) _|>.cell (p:=⟨w.heap.size,0,none⟩) (show w.heap.size<_ by omega) (show¬w.heap.size=B by omega)).trans y0;have t1:(w8.setCell ⟨B,1,none⟩ (.slice (some ⟨gg,0,none⟩) (n0+1) a6)).cell? ⟨w.heap.size,1,none⟩=some (.slice ta tn tc):=((zf.refl (fun b=>b=B) w8).setCell (p:=⟨B,1,none⟩) (.inl rfl) _|>.cell (p:=⟨w.heap.size,1,none⟩) (show w.heap.size<_ by omega) (show¬w.heap.size=B by omega)).trans y1;have f6 :w.heap.size<(w8.setCell ⟨B,1,none⟩ (.slice (some ⟨gg,0,none⟩) (n0+1) a6)).heap.size:=by rw[IS];omega
  have g7:gg≠w.heap.size:=fun e=>by
   rcases e3 gg rfl with h1|h1
   ·have:=e7 gg (d4 gg h1).1;omega
   ·omega
  clear c8 j9 y0 y1 g8 a7 c9 f0 a9 d7 e3;go_wp2;generalize w8.setCell ⟨B,1,none⟩ (.slice (some ⟨gg,0,none⟩) (n0+1) a6)=W9 at*;obtain⟨v3,b5⟩:∃v3,v3=Value.slice (some ⟨gg,0,none⟩) (n0+1) a6:=⟨_,rfl⟩
  rw[←b5]at e2 b3 b4 d9 b6;have g4:c.parents.map nK=(c.parents.map fun n:Nat=>(n:Int)).map byteOf:=by
   rw[DP];exact aQ fun n _=>(y7 n).symm
  have a1:Hid (∀W o,tH W9.heap.size W9 W→tH W9.heap.size W9 (W.alloc o)):=fun W o h=>h.alloc h.size o
  have a0:Hid (∀W,tH W9.heap.size W9 W→tH W9.heap.size W9 W.drew):=fun W h=>h.drew
  have b1:Hid (∀W W',tH W9.heap.size W9 W→tH W.heap.size W W' →tH W9.heap.size W9 W'):=fun W W' h h' =>h.trans (h'.mono h.size)
  have b2:Hid (∀W,tH W9.heap.size W9 W→w.heap.size<W.heap.size):=fun W h=>j0b f6 h.size
  have j5:Hid (∀W,tH W9.heap.size W9 W→wH sU 86 #[.slice pa np pc] W fun e w' =>e= .returned (.string ⟨(c.parents.map nK).toArray⟩)∧tH W.heap.size W w'):=fun W hW=>by
   have:=yM (.slice pa c.parents.length pc) (c.parents.map fun n:Nat=>(n:Int)) W _ (by
    have h9:=b3.below hW;rw[aN,DP];exact h9) (by rw[aN,←b8.out];omega)
   rw[←g4,←b8.out]at this;exact this
  have j6:Hid (∀W,tH W9.heap.size W9 W→wH sU 50 #[.slice ta tn tc] W fun e w' =>e= .returned (.string ⟨(R.Written c.tree).toArray⟩)∧tH W.heap.size W w'):=fun W hW=>YG _ c.tree W _ (b4.below hW) HT.out.ok (by have:=HT.out.few;omega) (g3.below hW)
  have i9:Hid (∀W,tH W9.heap.size W9 W→PSx W (fun b=>M b∨(O b∨v3.ownBlock=some b)) (fun b=>O b∨v3.ownBlock=some b) B {st with cms:=st.cms++ [c]} bv v3 LB (LCm++ [(c,.slice pa np pc,.slice ta tn tc)])):=fun W hW=>e2.kept (Z:=fun _=>False) (zf.of_below hW) (fun _ e=>e.elim) (fun b e=> .inl e) e2.sub
  have m5:=HT.out.len;have i6:Hid (∀i∈ [[byteOf (np:Int)],c.parents.map nK,R.Written c.tree],i.length≤1000000):=fun i hi=>by
   simp at hi;rcases hi with rfl|rfl|rfl
   ·simp
   ·simp;have:=b8.out;omega
   ·omega
  have m0:tH W9.heap.size W9 W9:=j0g _ _;have l8:=z4 a2;have l9:=z4 d9;have e9:¬(O w.heap.size∨v3.ownBlock=some w.heap.size):=fun e=>by
   rcases e with e|e
   ·have:=e7 _ e;omega
   ·rw[b5]at e;exact g7 (Option.some.inj e)
  have i7:Hid (∀W,tH W9.heap.size W9 W→zf O w W):=fun W hW=>⟨hW.os.trans a2.os,hW.tape.trans a2.tape,hW.output.trans a2.output,j0f a2.size hW.size,fun k hk hn=>by rw[hW.block k (j0b hk a2.size)];exact a2.block k hk hn⟩
  have i4:Hid ({st with cms:=st.cms++ [c],packed:=st.packed++R.record 67 ([[byteOf (np:Int)],c.parents.map nK,R.Written c.tree].flatten)}=R.keepC st c):=by
   show _=_;have: [[byteOf (np:Int)],c.parents.map nK,R.Written c.tree].flatten=R.bodyC c:=by
    rw[y7,b8.out,R.bodyC];simp
   rw[this];rfl
  have e6:Hid (∀W w9,tH W9.heap.size W9 W→zx W w9 (fun b=>M b∨(O b∨v3.ownBlock=some b)) (fun b=>O b∨v3.ownBlock=some b) B {st with cms:=st.cms++ [c],packed:=st.packed++R.record 67 ([[byteOf (np:Int)],c.parents.map nK,R.Written c.tree].flatten)}→Hid (zx w w9 M O B (R.keepC st c)∧∃a c',w9.cell? ⟨B,1,none⟩=some (.slice a (n0+1) c')∧n0+1≤c' ∧c' ≤maxLen)):=fun W w9 hW a8=>by
   rw[i4.out]at a8;refine⟨zx.trans (i7.out W hW) d9 a8,?_⟩;obtain⟨O2,k1,_⟩:=a8;obtain⟨a,c',h1,h2,h3⟩:=k1.cms1;have k4:(R.keepC st c).cms.length=n0+1:=by rw[f8.out];simp[R.keepC]
   rw[k4]at h1 h2;exact⟨a,c',h1,h2,h3⟩
  have i3:Hid (∀W w9,tH W9.heap.size W9 W→zx W w9 (fun b=>M b∨(O b∨v3.ownBlock=some b)) (fun b=>O b∨v3.ownBlock=some b) B {st with cms:=st.cms++ [c],packed:=st.packed++R.record 67 ([[byteOf (np:Int)],c.parents.map nK,R.Written c.tree].flatten)}→∀o,w9.cell? ⟨w.heap.size,o,none⟩=W.cell? ⟨w.heap.size,o,none⟩):=fun W w9 hW a8 o=>by
   obtain⟨O2,_,k6,_⟩:=a8;exact k6.cell (p:=⟨w.heap.size,o,none⟩) (b2.out W hW) e9
  generalize m2:c.parents.map nK=pbs at*;generalize m7:R.Written c.tree=wtr at*;clear e2 b3 b4 a2 d9 b6 g4 g3 g7 b5;go_region_held3 (fun w' =>w'.cell? ⟨w.heap.size,0,none⟩=some (.slice pa np pc)∧w'.cell? ⟨w.heap.size,1,none⟩=some (.slice ta tn tc)) (go_keep)
   (first
    |(go_at_call 50;refine(j6.out _ (by first|assumption|exact a1.out _ _ (by assumption)|exact a0.out _ (by assumption)|exact a0.out _ (a1.out _ _ (by assumption))|exact a1.out _ _ (a0.out _ (by assumption)))).mono ?_;rintro e w9 ⟨rfl,a3⟩;have b9:=b1.out _ _ (by first|assumption|exact a1.out _ _ (by assumption)|exact a0.out _ (by assumption)|exact a0.out _ (a1.out _ _ (by assumption))|exact a1.out _ _ (a0.out _ (by assumption))) a3;have i1:=b2.out _ b9;have e8:∀o,w9.cell? ⟨w.heap.size,o,none⟩=_:=fun o=>a3.cell (p:=⟨w.heap.size,o,none⟩) (b2.out _ (by first|assumption|exact a1.out _ _ (by assumption)|exact a0.out _ (by assumption)|exact a0.out _ (a1.out _ _ (by assumption))|exact a1.out _ _ (a0.out _ (by assumption))));clear a3)
    |(go_at_call 86;with_reducible refine(j5.out _ (by first|assumption|exact a1.out _ _ (by assumption)|exact a0.out _ (by assumption)|exact a0.out _ (a1.out _ _ (by assumption))|exact a1.out _ _ (a0.out _ (by assumption)))).mono ?_;rintro e w9 ⟨rfl,a3⟩;have b9:=b1.out _ _ (by first|assumption|exact a1.out _ _ (by assumption)|exact a0.out _ (by assumption)|exact a0.out _ (a1.out _ _ (by assumption))|exact a1.out _ _ (a0.out _ (by assumption))) a3;have i1:=b2.out _ b9;have e8:∀o,w9.cell? ⟨w.heap.size,o,none⟩=_:=fun o=>a3.cell (p:=⟨w.heap.size,o,none⟩) (b2.out _ (by first|assumption|exact a1.out _ _ (by assumption)|exact a0.out _ (by assumption)|exact a0.out _ (a1.out _ _ (by assumption))|exact a1.out _ _ (a0.out _ (by assumption))));clear a3)
    |(go_at_call 86;refine(yM _ [(np:Int)] _ (fun _=>False) (by exact yw _ _ rfl #[.int .i64 (np:Int)] 3 (by simp)) (by simp)).mono ?_;rintro e w9 ⟨rfl,a3⟩;have b9:=b1.out _ _ (by first|assumption|exact a1.out _ _ (by assumption)|exact a0.out _ (by assumption)|exact a0.out _ (a1.out _ _ (by assumption))|exact a1.out _ _ (a0.out _ (by assumption))) a3;have i1:=b2.out _ b9;have e8:∀o,w9.cell? ⟨w.heap.size,o,none⟩=_:=fun o=>a3.cell (p:=⟨w.heap.size,o,none⟩) (b2.out _ (by first|assumption|exact a1.out _ _ (by assumption)|exact a0.out _ (by assumption)|exact a0.out _ (a1.out _ _ (by assumption))|exact a1.out _ _ (a0.out _ (by assumption))));clear a3)
    |(go_at_call 69;refine(j7 B 67 67 rfl _ [[byteOf (np:Int)],pbs,wtr] (i9.out _ (by first|assumption|exact a1.out _ _ (by assumption)|exact a0.out _ (by assumption)|exact a0.out _ (a1.out _ _ (by assumption))|exact a1.out _ _ (a0.out _ (by assumption)))) (fun _=>False) (by exact yw _ _ rfl #[.string ⟨[byteOf (np:Int)].toArray⟩,.string ⟨pbs.toArray⟩,.string ⟨wtr.toArray⟩] 9 (by simp)) (by simp) i6.out l4).mono ?_;rintro e w9 ⟨rfl,a8⟩;have g0:=e6.out _ _ (by first|assumption|exact a1.out _ _ (by assumption)|exact a0.out _ (by assumption)|exact a0.out _ (a1.out _ _ (by assumption))|exact a1.out _ _ (a0.out _ (by assumption))) a8;have e8:∀o,w9.cell? ⟨w.heap.size,o,none⟩=_:=i3.out _ _ (by first|assumption|exact a1.out _ _ (by assumption)|exact a0.out _ (by assumption)|exact a0.out _ (a1.out _ _ (by assumption))|exact a1.out _ _ (a0.out _ (by assumption))) a8;clear a8))
  all_goals
   rename_i c6;clear c6;have e1:=g0.out.2;obtain⟨a4,c4,e4,m1,k3⟩:=e1;have j4:=z4 g0.out.1;unfold maxLen at k3;go_wp2;go_ret;exact⟨by first|rfl|simp,j4.out⟩
theorem Oq (B:Nat)(c:UInt8)(ci:Int)(b8:(c.toNat:Int)=ci)(v:eB)(l:List (List UInt8)){w:eX}{M O:Nat→Prop}{st:R.St}{bv cv:eB}{LB:List BrP}{LCm:List (R.Cm×eB×eB)}(hP:PSx w M O B st bv cv LB LCm)(Mr:Nat→Prop)(h:Rd w Mr v l.length (l.map S))(hl:l.length≤10)(hi:∀i∈l,i.length≤1000000)(d7:st.packed.length≤1000000000000):
  wH sU 69 #[.pointer (some ⟨B,0,none⟩),.int .u8 ci,v] w fun e w' =>e= .returned (.tuple #[])∧YO w w' M O B {st with packed:=st.packed++R.record c l.flatten} bv cv LB LCm:=by
 subst b8;have a5:=fun W (hW:tH w.heap.size w W)=>Ou c v l W Mr (h.below hW) hl hi
 have d8:(R.record c l.flatten).length≤100000000:=by rw[R.record_len];have:=x8 l hi;omega
 obtain⟨va,vc,rfl⟩:∃va vc,v= .slice va l.length vc:=by obtain⟨a,cap,e,_⟩:=h;exact⟨a,cap,e⟩
 obtain⟨pv,a0⟩:=hP.pk;have c2:=a0.c2;have b6:=hP.fr 2;have a4:=hP.lt B hP.own;obtain⟨i0,a9,b1,b2,b3⟩:=info_parts Tryz.info5;obtain⟨pa,pc,a1,_⟩:=zh a0.row;have HP:=z9 hP;have b5:=z9 a0;have d4:=z9 a1;have a7:∀W,tH w.heap.size w W→∃a3 n3 k3 w3,(Builtin.append_ #[100,9] 100 #[.slice pa st.packed.length pc,.string ⟨(R.record c l.flatten).toArray⟩]).run sU W= .ok (.slice a3 n3 k3) w3∧Hid (w3.ownsRow 0 5 1 (.slice a3 n3 k3) (st.packed++R.record c l.flatten).length (tG (st.packed++R.record c l.flatten)))∧Hid (zf (fun b=>pv.ownBlock=some b) w w3)∧Hid (∀g,(Value.slice a3 n3 k3).ownBlock=some g→pv.ownBlock=some g∨w.heap.size≤g)∧w3.cell? ⟨B,2,none⟩=some (.slice pa st.packed.length pc)∧w3.frozen? ⟨B,2,none⟩=false:=by
  intro W hW;have a2:=Zl a0.row hW;obtain⟨v3,w3,h1,h2,h3,h4⟩:=Lib.run_append_own_string (P:=sU) W 0 100 9 100 5 i0 H5 H6 a9 b1 b2 b3 pv st.packed.length (tG st.packed) a2 ⟨(R.record c l.flatten).toArray⟩ (by simp[DQ,maxLen];omega) (by simp[DQ];omega) (wB _);have a6:pv.ownBlock≠some B:=fun e=>(a0.rowO B e).2.1 rfl
  have d5:W.heap.size≤w3.heap.size:=h3.size;have d6:=hW.size;have hK:zf (fun b=>pv.ownBlock=some b) w w3:=⟨h3.os.trans hW.os,h3.tape.trans hW.tape,h3.output.trans hW.output,by omega,fun k hk hn=>by
   rw[h3.block k (by omega) (fun e=>hn e.symm)];exact hW.block k hk⟩
  have b7:=vm (P:=sU) W 0 100 9 100 5 i0 H5 H6 a9 b1 b2 b3 pv st.packed.length (tG st.packed) a2 ⟨(R.record c l.flatten).toArray⟩ (by simp[DQ,R.record_len]) (by simp[DQ];omega) h1;obtain⟨a3,k3,c9,_⟩:=zh h2;subst c9;refine⟨a3,_,k3,w3,by rw[←a1];exact h1,?_,hK,?_,?_,?_⟩
  ·show World.ownsRow _ _ _ _ _ _ _
   rw[Lib.strCells_eq,←Lib.byteCells_append]at h2;simpa[DQ]using h2
  ·intro g hg
   rcases b7 g hg with h|h
   ·exact .inl h
   ·exact .inr (by omega)
  ·rw[hK.cell (p:=⟨B,2,none⟩) a4 a6,c2,a1]
  ·rw[hK.frozen (p:=⟨B,2,none⟩) a4 a6];exact b6
 rw[a1]at c2;have b4:=z9 a7;clear hP a0 a1 a7 h hi;generalize R.record c l.flatten=rc at*;generalize st.packed++rc=pk2 at*;go_enter Tryz.func69,Tryz.ntmps69;go_wp2_with fail
 go_region_law (first
  |((refine vr (by rfl) (.tmp 10) (.tmp 13) 100 9 (by rfl) (.slice pa st.packed.length pc) (.string ⟨rc.toArray⟩) (by rfl) (by rfl) (by exact c8) ?_))
  |((refine oH (R:=fun v w1=>v= .string ⟨rc.toArray⟩∧tH w.heap.size w w1) (by rfl) (by rfl) Tryz.func107 (by rfl) (by rfl) (vals:= #[.int .u8 (c.toNat:Int),.slice va l.length vc]) (by simp[Act.eval,Act.put]) ((a5 _ (j0g _ _).drew).mono fun e w1 ⟨he,hb⟩=>⟨_,he,rfl,((j0g _ _).drew).trans hb⟩) ?_;rintro v0 w1 ⟨rfl,a8⟩;have d2:w1.cell? ⟨B,2,none⟩=some (.slice pa st.packed.length pc):=(a8.cell (p:=⟨B,2,none⟩) a4).trans c2;obtain⟨a3,n3,k3,w3,c8,c7,b9,c6,d3,g3⟩:=b4.out w1 a8)))
 all_goals
  go_end0
  exact⟨rfl,fE HP.out b5.out b9.out c7.out c6.out⟩
theorem bH {w:eX}{M O:Nat→Prop}{B:Nat}{st:R.St}{bv cv:eB}{LB:List BrP}{LCm:List (R.Cm×eB×eB)}(hP:PSx w M O B st bv cv LB LCm)(c:R.Cm)(pa:Option Addr)(pc:Nat)(ta:Option Addr)(tn tc:Nat)(h0:PT w M (.slice ta tn tc) c.tree)(f5:Rd w M (.slice pa c.parents.length pc) c.parents.length (Ym c.parents))(hM:∀b,M b→b<w.heap.size)(hT:OkT c.tree)(h2:c.parents.length≤2)(hl:st.cms.length<60)(l5:st.packed.length≤1000000000000)(hG:Zp w)(h6:∀b,O b→6≤b):
  wH sU 97 #[.pointer (some ⟨B,0,none⟩),.agg #[.slice pa c.parents.length pc,.slice ta tn tc]] w fun e w' =>e= .returned (.int .i64 ((st.cms.length+1:Nat):Int))∧∃j9 e7,YO w w' M O B (R.keepC st c) bv j9 LB e7 :=by
 have g3:=hP.lt B hP.own;have c1:=hP.c1;obtain⟨ca,cc,b7,k8,k9,l0,l3⟩:=zh hP.crow;have d8:LCm.length=st.cms.length:=by rw[←hP.cms,aN]
 obtain⟨n0,d5⟩:∃n0,n0=st.cms.length:=⟨_,rfl⟩
 rw[d8,←d5]at b7 k8;rw[←d5]at hl⊢;rw[b7]at c1;unfold maxLen at k9;have a5:=hP.crow;rw[d8,←d5,b7]at a5;have d4:∀g,(Value.slice ca n0 cc).ownBlock=some g→O g∧g≠B:=fun g e=>by
  have:=hP.crowO g (by rw[b7];exact e);exact⟨this.1,this.2.1⟩
 have HP:=z4 hP;have f8:=z4 b7;have f9:=z4 d5;have i9:=z4 d8;have g2:=z4 h0;have g0:=z4 f5;have HG:=z4 hG;have HT:=z4 hT;have c7:=hP.sub;have e8:=hP.lt;obtain⟨np,f4⟩:∃np,np=c.parents.length:=⟨_,rfl⟩
 rw[←f4]at h2⊢;have b8:=z4 f4;have f6:np≤pc∧pc≤maxLen:=by
  obtain⟨a,k,e,h1,h2,_⟩:=f5;injection e with _ _ e
  subst e;exact⟨by omega,h2⟩
 have i6:Hid (∀o,w.frozen? ⟨B,o,none⟩=false):=hP.fr;unfold maxLen at f6;obtain⟨i0,k6,l6,l7,l8⟩:=info_parts Tryz.info114;have g6:(Value.slice ca n0 cc).ownBlock≠some B:=fun e=>(d4 B e).2 rfl
 clear hP b7 l0 l3 d5 d8 h0 f5 hG hT f4;go_enter IM,IN;go_wp2;have d3:tH w.heap.size w (w.alloc (Obj.cells #[.slice pa np pc,.slice ta tn tc] 114)):=(j0g _ _).alloc (j0a _) _;have i3:(w.alloc (Obj.cells #[.slice pa np pc,.slice ta tn tc] 114)).heap.size=w.heap.size+1:=by simp
 have x0:(w.alloc (Obj.cells #[.slice pa np pc,.slice ta tn tc] 114)).cell? ⟨w.heap.size,0,none⟩=some (.slice pa np pc):=by simp
 have x1:(w.alloc (Obj.cells #[.slice pa np pc,.slice ta tn tc] 114)).cell? ⟨w.heap.size,1,none⟩=some (.slice ta tn tc):=by simp
 generalize w.alloc (Obj.cells #[.slice pa np pc,.slice ta tn tc] 114)=W1 at*;have sB:=(d3.cell (p:=⟨B,1,none⟩) g3).trans c1;have so:=Zl a5 d3;have fB:∀o,W1.frozen? ⟨B,o,none⟩=false:=fun o=>(d3.frozen (p:=⟨B,o,none⟩) g3).trans (i6.out o)
 have rB:∀o,(W1.alloc o).cell? ⟨B,1,none⟩=some (.slice ca n0 cc):=fun o=>by rw[IP _ _ _ (by omega)];exact sB
 have r0:∀o,(W1.alloc o).cell? ⟨w.heap.size,0,none⟩=some (.slice pa np pc):=fun o=>by rw[IP _ _ _ (by omega)];exact x0
 have r1:∀o,(W1.alloc o).cell? ⟨w.heap.size,1,none⟩=some (.slice ta tn tc):=fun o=>by rw[IP _ _ _ (by omega)];exact x1
 have j4:Hid (∀o j,(W1.alloc o).frozen? ⟨B,j,none⟩=false):=fun o j=>by rw[IQ _ _ _ (by omega)];exact fB j
 have j3:=z4 rB;have j1:=z4 r0;have j2:=z4 r1;have d6:=z4 d3;have j8:=z4 i3;have m7:w.heap.size<W1.heap.size:=by omega
 have i1:(Value.slice ca n0 cc).ownBlock≠some w.heap.size:=fun e=>by have:=e8 _ (d4 _ e).1;omega
 clear d3 i3 fB a5 c1;go_region_law ((refine step_append_lies _ (by rfl) _ _ 99 (by rfl) 0 114 i0 (.agg #[.slice none 0 0,.slice none 0 0]) 2 48 IR k6 l6 l7 l8 rfl (by decide) (.slice ca n0 cc) n0 (YJ LCm) (by rfl) (by exact so.alloc _) ⟨W1.heap.size,0,none⟩ 1 1 [.slice pa np pc,.slice ta tn tc] (by rfl) rfl (by exact y6 W1 #[.slice pa np pc,.slice ta tn tc] 114) (by intro u hu;simp at hu;rcases hu with rfl|rfl<;>rfl) (by decide) (by unfold maxLen;omega) (by omega) (wB _) (W1.heap.size+1) (by simp) ?_;intro gg a6 w8 g9 a7 c9 f3;have c8:w8.cell? ⟨B,1,none⟩=some (.slice ca n0 cc):=a7.cell (by exact j3.out _) (fun e=>g6 e.symm);have k1:w8.frozen? ⟨B,1,none⟩=false:=(I4 (a:=⟨B,1,none⟩) (a7.block B (by simp;omega) (fun e=>g6 e.symm))).trans (by exact j4.out _ 1);have y0:w8.cell? ⟨w.heap.size,0,none⟩=some (.slice pa np pc):=a7.cell (by exact j1.out _) (fun e=>i1 e.symm);have y1:w8.cell? ⟨w.heap.size,1,none⟩=some (.slice ta tn tc):=a7.cell (by exact j2.out _) (fun e=>i1 e.symm)))
 all_goals
  have m4:W1.heap.size+1≤w8.heap.size:=by have:=a7.size;simp at this;omega
  have a9:∀k,k<W1.heap.size→(Value.slice ca n0 cc).ownBlock≠some k→w8.heap[k]? =W1.heap[k]? :=fun k hk l4=>by
   rw[a7.block k (by simp;omega) (fun e=>l4 e.symm)];exact heap_alloc_old W1 _ hk
  have m5:=j8.out;have d7:zf (fun b=>(Value.slice ca n0 cc).ownBlock=some b) w w8:=⟨a7.os.trans d6.out.os,a7.tape.trans d6.out.tape,a7.output.trans d6.out.output,by omega,fun k hk hn=>by
   rw[a9 k (by omega) hn];exact d6.out.block k hk⟩
  have e3:∀b,(Value.slice (some ⟨gg,0,none⟩) (n0+1) a6).ownBlock=some b→(Value.slice ca n0 cc).ownBlock=some b∨W1.heap.size<b:=fun b e=>by
   have e' :gg=b:=Option.some.inj e;rcases c9 with h1|h1
   ·exact .inl (by rw[←e'];exact h1)
   ·exact .inr (by omega)
  have b6:∀b,(M b∨(O b∨(Value.slice (some ⟨gg,0,none⟩) (n0+1) a6).ownBlock=some b))→M b∨w.heap.size≤b:=fun b e=>by
   rcases e with e|e|e
   ·exact .inl e
   ·exact .inl (c7 b e)
   ·rcases e3 b e with e|e
    ·exact .inl (c7 b (d4 b e).1)
    ·exact .inr (by omega)
  have g7:∀b,(Value.slice ca n0 cc).ownBlock=some b→M b:=fun b e=>c7 b (d4 b e).1
  obtain⟨e2,a2,d9⟩:=uf (c:=c) (v3:= .slice (some ⟨gg,0,none⟩) (n0+1) a6) (tv:= .slice ta tn tc) (pv:= .slice pa np pc) HP.out (w5:=w8) (by rw[f8.out];exact d7) (by rw[i9.out,←f9.out];exact g9) (fun g e=>by
   rw[f8.out];rcases e3 g e with e|e
   ·exact .inl e
   ·exact .inr (by omega)) (g2.out.step d7 g7 b6) (by have:=g0.out.step d7 g7 b6;rw[←b8.out]at this⊢;exact this)
  have b3:=g0.out.step (M' :=fun b=>M b∨(O b∨(Value.slice (some ⟨gg,0,none⟩) (n0+1) a6).ownBlock=some b)) a2 c7 b6;have b4:=g2.out.step (M' :=fun b=>M b∨(O b∨(Value.slice (some ⟨gg,0,none⟩) (n0+1) a6).ownBlock=some b)) a2 c7 b6;have g4:=HG.out.kept a2 h6;have t0:(w8.setCell ⟨B,1,none⟩ (.slice (some ⟨gg,0,none⟩) (n0+1) a6)).cell? ⟨w.heap.size,0,none⟩=some (.slice pa np pc):=((zf.refl (fun b=>b=B) w8).setCell (p:=⟨B,1,none⟩) (.inl rfl) _|>.cell (p:=⟨w.heap.size,0,none⟩) (show w.heap.size<_ by omega) (show¬w.heap.size=B by omega)).trans y0;have t1:(w8.setCell ⟨B,1,none⟩ (.slice (some ⟨gg,0,none⟩) (n0+1) a6)).cell? ⟨w.heap.size,1,none⟩=some (.slice ta tn tc):=((zf.refl (fun b=>b=B) w8).setCell (p:=⟨B,1,none⟩) (.inl rfl) _|>.cell (p:=⟨w.heap.size,1,none⟩) (show w.heap.size<_ by omega) (show¬w.heap.size=B by omega)).trans y1;have f7 :w.heap.size<(w8.setCell ⟨B,1,none⟩ (.slice (some ⟨gg,0,none⟩) (n0+1) a6)).heap.size:=by rw[IS];omega
  have g8:gg≠w.heap.size:=fun e=>by
   rcases e3 gg rfl with h1|h1
   ·have:=e8 gg (d4 gg h1).1;omega
   ·omega
  clear c8 k1 y0 y1 g9 a7 c9 f3 a9 d7 e3;go_wp2;generalize w8.setCell ⟨B,1,none⟩ (.slice (some ⟨gg,0,none⟩) (n0+1) a6)=W9 at*;obtain⟨v3,b5⟩:∃v3,v3=Value.slice (some ⟨gg,0,none⟩) (n0+1) a6:=⟨_,rfl⟩
  rw[←b5]at e2 b3 b4 d9 b6;have g5:c.parents.map nK=(c.parents.map fun n:Nat=>(n:Int)).map byteOf:=by
   rw[DP];exact aQ fun n _=>(y7 n).symm
  have a1:Hid (∀W o,tH W9.heap.size W9 W→tH W9.heap.size W9 (W.alloc o)):=fun W o h=>h.alloc h.size o
  have a0:Hid (∀W,tH W9.heap.size W9 W→tH W9.heap.size W9 W.drew):=fun W h=>h.drew
  have b1:Hid (∀W W',tH W9.heap.size W9 W→tH W.heap.size W W' →tH W9.heap.size W9 W'):=fun W W' h h' =>h.trans (h'.mono h.size)
  have b2:Hid (∀W,tH W9.heap.size W9 W→w.heap.size<W.heap.size):=fun W h=>j0b f7 h.size
  have j6:Hid (∀W,tH W9.heap.size W9 W→wH sU 86 #[.slice pa np pc] W fun e w' =>e= .returned (.string ⟨(c.parents.map nK).toArray⟩)∧tH W.heap.size W w'):=fun W hW=>by
   have:=yM (.slice pa c.parents.length pc) (c.parents.map fun n:Nat=>(n:Int)) W _ (by
    have h9:=b3.below hW;rw[aN,DP];exact h9) (by rw[aN,←b8.out];omega)
   rw[←g5,←b8.out]at this;exact this
  have j7:Hid (∀W,tH W9.heap.size W9 W→wH sU 50 #[.slice ta tn tc] W fun e w' =>e= .returned (.string ⟨(R.Written c.tree).toArray⟩)∧tH W.heap.size W w'):=fun W hW=>YG _ c.tree W _ (b4.below hW) HT.out.ok (by have:=HT.out.few;omega) (g4.below hW)
  have j0:Hid (∀W,tH W9.heap.size W9 W→PSx W (fun b=>M b∨(O b∨v3.ownBlock=some b)) (fun b=>O b∨v3.ownBlock=some b) B {st with cms:=st.cms++ [c]} bv v3 LB (LCm++ [(c,.slice pa np pc,.slice ta tn tc)])):=fun W hW=>e2.kept (Z:=fun _=>False) (zf.of_below hW) (fun _ e=>e.elim) (fun b e=> .inl e) e2.sub
  have m6:=HT.out.len;have i7:Hid (∀i∈ [[byteOf (np:Int)],c.parents.map nK,R.Written c.tree],i.length≤1000000):=fun i hi=>by
   simp at hi;rcases hi with rfl|rfl|rfl
   ·simp
   ·simp;have:=b8.out;omega
   ·omega
  have m1:tH W9.heap.size W9 W9:=j0g _ _;have l9:=z4 a2;have m0:=z4 d9;have f0:¬(O w.heap.size∨v3.ownBlock=some w.heap.size):=fun e=>by
   rcases e with e|e
   ·have:=e8 _ e;omega
   ·rw[b5]at e;exact g8 (Option.some.inj e)
  have i8:Hid (∀W,tH W9.heap.size W9 W→zf O w W):=fun W hW=>⟨hW.os.trans a2.os,hW.tape.trans a2.tape,hW.output.trans a2.output,j0f a2.size hW.size,fun k hk hn=>by rw[hW.block k (j0b hk a2.size)];exact a2.block k hk hn⟩
  have i5:Hid ({st with cms:=st.cms++ [c],packed:=st.packed++R.record 67 ([[byteOf (np:Int)],c.parents.map nK,R.Written c.tree].flatten)}=R.keepC st c):=by
   show _=_;have: [[byteOf (np:Int)],c.parents.map nK,R.Written c.tree].flatten=R.bodyC c:=by
    rw[y7,b8.out,R.bodyC];simp
   rw[this];rfl
  have e6:Hid (∀W w9,tH W9.heap.size W9 W→YO W w9 (fun b=>M b∨(O b∨v3.ownBlock=some b)) (fun b=>O b∨v3.ownBlock=some b) B {st with cms:=st.cms++ [c],packed:=st.packed++R.record 67 ([[byteOf (np:Int)],c.parents.map nK,R.Written c.tree].flatten)} bv v3 LB (LCm++ [(c,.slice pa np pc,.slice ta tn tc)])→Hid (YO w w9 M O B (R.keepC st c) bv v3 LB (LCm++ [(c,.slice pa np pc,.slice ta tn tc)])∧∃a c',w9.cell? ⟨B,1,none⟩=some (.slice a (n0+1) c')∧n0+1≤c' ∧c' ≤maxLen)):=fun W w9 hW a8=>by
   rw[i5.out]at a8;refine⟨YO.trans (i8.out W hW) d9 a8,?_⟩;obtain⟨O2,k3,_⟩:=a8;obtain⟨a,c',h1,h2,h3⟩:=PS.cms1 ⟨_,_,_,_,k3⟩;have k5:(R.keepC st c).cms.length=n0+1:=by rw[f9.out];simp[R.keepC]
   rw[k5]at h1 h2;exact⟨a,c',h1,h2,h3⟩
  have i4:Hid (∀W w9,tH W9.heap.size W9 W→YO W w9 (fun b=>M b∨(O b∨v3.ownBlock=some b)) (fun b=>O b∨v3.ownBlock=some b) B {st with cms:=st.cms++ [c],packed:=st.packed++R.record 67 ([[byteOf (np:Int)],c.parents.map nK,R.Written c.tree].flatten)} bv v3 LB (LCm++ [(c,.slice pa np pc,.slice ta tn tc)])→∀o,w9.cell? ⟨w.heap.size,o,none⟩=W.cell? ⟨w.heap.size,o,none⟩):=fun W w9 hW a8 o=>by
   obtain⟨O2,_,k7,_⟩:=a8;exact k7.cell (p:=⟨w.heap.size,o,none⟩) (b2.out W hW) f0
  generalize m3:c.parents.map nK=pbs at*;generalize m8:R.Written c.tree=wtr at*;clear e2 b3 b4 a2 d9 b6 g5 g4 g8 b5;go_region_held3 (fun w' =>w'.cell? ⟨w.heap.size,0,none⟩=some (.slice pa np pc)∧w'.cell? ⟨w.heap.size,1,none⟩=some (.slice ta tn tc)) (go_keep)
   (first
    |(go_at_call 50;refine(j7.out _ (by first|assumption|exact a1.out _ _ (by assumption)|exact a0.out _ (by assumption)|exact a0.out _ (a1.out _ _ (by assumption))|exact a1.out _ _ (a0.out _ (by assumption)))).mono ?_;rintro e w9 ⟨rfl,a3⟩;have b9:=b1.out _ _ (by first|assumption|exact a1.out _ _ (by assumption)|exact a0.out _ (by assumption)|exact a0.out _ (a1.out _ _ (by assumption))|exact a1.out _ _ (a0.out _ (by assumption))) a3;have i2:=b2.out _ b9;have e9:∀o,w9.cell? ⟨w.heap.size,o,none⟩=_:=fun o=>a3.cell (p:=⟨w.heap.size,o,none⟩) (b2.out _ (by first|assumption|exact a1.out _ _ (by assumption)|exact a0.out _ (by assumption)|exact a0.out _ (a1.out _ _ (by assumption))|exact a1.out _ _ (a0.out _ (by assumption))));clear a3)
    |(go_at_call 86;with_reducible refine(j6.out _ (by first|assumption|exact a1.out _ _ (by assumption)|exact a0.out _ (by assumption)|exact a0.out _ (a1.out _ _ (by assumption))|exact a1.out _ _ (a0.out _ (by assumption)))).mono ?_;rintro e w9 ⟨rfl,a3⟩;have b9:=b1.out _ _ (by first|assumption|exact a1.out _ _ (by assumption)|exact a0.out _ (by assumption)|exact a0.out _ (a1.out _ _ (by assumption))|exact a1.out _ _ (a0.out _ (by assumption))) a3;have i2:=b2.out _ b9;have e9:∀o,w9.cell? ⟨w.heap.size,o,none⟩=_:=fun o=>a3.cell (p:=⟨w.heap.size,o,none⟩) (b2.out _ (by first|assumption|exact a1.out _ _ (by assumption)|exact a0.out _ (by assumption)|exact a0.out _ (a1.out _ _ (by assumption))|exact a1.out _ _ (a0.out _ (by assumption))));clear a3)
    |(go_at_call 86;refine(yM _ [(np:Int)] _ (fun _=>False) (by exact yw _ _ rfl #[.int .i64 (np:Int)] 3 (by simp)) (by simp)).mono ?_;rintro e w9 ⟨rfl,a3⟩;have b9:=b1.out _ _ (by first|assumption|exact a1.out _ _ (by assumption)|exact a0.out _ (by assumption)|exact a0.out _ (a1.out _ _ (by assumption))|exact a1.out _ _ (a0.out _ (by assumption))) a3;have i2:=b2.out _ b9;have e9:∀o,w9.cell? ⟨w.heap.size,o,none⟩=_:=fun o=>a3.cell (p:=⟨w.heap.size,o,none⟩) (b2.out _ (by first|assumption|exact a1.out _ _ (by assumption)|exact a0.out _ (by assumption)|exact a0.out _ (a1.out _ _ (by assumption))|exact a1.out _ _ (a0.out _ (by assumption))));clear a3)
    |(go_at_call 69;refine(Oq B 67 67 rfl _ [[byteOf (np:Int)],pbs,wtr] (j0.out _ (by first|assumption|exact a1.out _ _ (by assumption)|exact a0.out _ (by assumption)|exact a0.out _ (a1.out _ _ (by assumption))|exact a1.out _ _ (a0.out _ (by assumption)))) (fun _=>False) (by exact yw _ _ rfl #[.string ⟨[byteOf (np:Int)].toArray⟩,.string ⟨pbs.toArray⟩,.string ⟨wtr.toArray⟩] 9 (by simp)) (by simp) i7.out l5).mono ?_;rintro e w9 ⟨rfl,a8⟩;have g1:=e6.out _ _ (by first|assumption|exact a1.out _ _ (by assumption)|exact a0.out _ (by assumption)|exact a0.out _ (a1.out _ _ (by assumption))|exact a1.out _ _ (a0.out _ (by assumption))) a8;have e9:∀o,w9.cell? ⟨w.heap.size,o,none⟩=_:=i4.out _ _ (by first|assumption|exact a1.out _ _ (by assumption)|exact a0.out _ (by assumption)|exact a0.out _ (a1.out _ _ (by assumption))|exact a1.out _ _ (a0.out _ (by assumption))) a8;clear a8))
  all_goals
   rename_i c6;clear c6;have e1:=g1.out.2;obtain⟨a4,c4,e4,m2,k4⟩:=e1;have j5:=z4 g1.out.1;unfold maxLen at k4;go_wp2;go_ret;exact⟨by first|rfl|simp,_,_,j5.out⟩
theorem Ov (B:Nat)(st:R.St)(name:List UInt8)(head:Nat)(w:eX)(M O:Nat→Prop){bv cv:eB}{LB:List BrP}{LCm:List (R.Cm×eB×eB)}(hP:PSx w M O B st bv cv LB LCm)(hf:R.fnd st.brs name<st.brs.length)(a8:Nat)(a4:∀hl:R.fnd st.brs name<LB.length,(LB[R.fnd st.brs name]'hl).2.1=a8)(hi:Inv st)(hh:head≤st.cms.length)(f5:name.length≤1000)(e6:st.packed.length≤1000000000000):
  wH sU 48 #[.pointer (some ⟨B,0,none⟩),.string ⟨name.toArray⟩,.int .i64 (head:Int)] w fun e w' =>e= .returned (.tuple #[])∧zx w w' M O B (R.setHead st name head)∧w'.cell? ⟨a8,1,none⟩=some (.int .i64 (head:Int))∧w'.cell? ⟨a8,0,none⟩=some (.string ⟨name.toArray⟩):=by
 have a6:=kg hP hi name;rw[QH]at a6;have b2:st.brs.length=LB.length:=by rw[←hP.brs,aN]
 obtain⟨a,cap,e1,hn,hm,a5,a1⟩:=zh hP.row;have c0:=hP.c0;rw[e1]at c0;unfold maxLen at hm;have f0:=hP.lt B hP.own;have b1:=hi.few;have HR:Hid (R.setHead st name head={st with brs:=st.brs.set (R.fnd st.brs name) {name:=name,head:=head,work:=R.treeOf st head},packed:=st.packed++R.record 66 (nK head::name)}):=rfl;rw[decide_eq_true hf,←j8 hi.sort name hf]at a6;have hl:R.fnd st.brs name<LB.length:=by omega
 have b3:(LB[R.fnd st.brs name]'hl).1.name=name:=by
  have:(LB[R.fnd st.brs name]'hl).1=(st.brs[R.fnd st.brs name]'hf):=by simp only[←hP.brs,tM]
  rw[this];exact R.fnd_name _ _ hf
 have c9:=Yn hP head hh b1;have a2:=hP.at_ _ (j0c hl);have hO:=(hP.blk _ (j0c hl)).1;have f3:=hP.lt _ hO;have k1:=a2.c1;have k2:=a2.c2;have f1:=a2.fr 1;have f2:=a2.fr 2;have HP:=z9 hP;have e9:=z9 b3;have HH:=z9 a2
 cases a with
 |none=>have:=(a5 rfl).1;omega
 |some ad=>
 obtain⟨g,rfl,_,f4,_,a0⟩:=a1 ad rfl;have e0:=qm a0 (R.fnd st.brs name) hl;have HS:Hid (∀(tv:eB) (t:List R.Leaf),PT w M tv t→PSx ((w.setCell ⟨(LB[R.fnd st.brs name]'hl).2.1,1,none⟩ (.int .i64 (head:Int))).setCell ⟨(LB[R.fnd st.brs name]'hl).2.1,2,none⟩ tv) M O B {st with brs:=st.brs.set (R.fnd st.brs name) {name:=name,head:=head,work:=t}} bv cv (LB.set (R.fnd st.brs name) ({name:=name,head:=head,work:=t},(LB[R.fnd st.brs name]'hl).2.1,tv)) LCm∧zf O w ((w.setCell ⟨(LB[R.fnd st.brs name]'hl).2.1,1,none⟩ (.int .i64 (head:Int))).setCell ⟨(LB[R.fnd st.brs name]'hl).2.1,2,none⟩ tv)):=by
  intro tv t a7;have hK:=cM w (LB[R.fnd st.brs name]'hl).2.1 (.int .i64 (head:Int)) tv;exact Qy hP hl (j0g _ _) hK (ky a2 name b3 head (a7.step hK (fun b e=>by subst e;exact hP.sub _ hO) (fun b e=> .inl e)))
 have b8:=a4 hl;generalize(LB[R.fnd st.brs name]'hl).2.1=bb at*;have d4:=z9 b8;have d6:=z9 hl;clear b8 a4;generalize(LB[R.fnd st.brs name]'hl).2.2=t0 at*;clear hP hi a0 a1 a5 b2 hf b3 a2;generalize R.fnd st.brs name=k at*;go_enter I2,I3;go_wp2_with fail
 refine a6.mono ?_;rintro e w1 ⟨rfl,e7⟩;subst e7;go_wp2_with fail
 refine c9.mono ?_;rintro e w2 ⟨ta,tc,rfl,a7,e8⟩;subst e8;obtain⟨c7,b9⟩:=HS.out _ _ a7;have d7:=z9 c7;have b5:=z9 b9;clear c9 a6 a7 c7 b9;go_wp2_with fail
 have b6:=yM (.slice (some ⟨w2.heap.size,0,none⟩) 1 1) [(head:Int)] (((w2.setCell ⟨bb,1,none⟩ (.int .i64 (head:Int))).setCell ⟨bb,2,none⟩ (.slice ta (R.treeOf st head).length tc)).alloc (.cells #[.int .i64 (head:Int)] 3)) (fun _=>False) (yw _ _ (by simp) #[.int .i64 (head:Int)] 3 (by simp)) (by simp);refine b6.mono ?_;rintro e w7 ⟨rfl,b7⟩;clear b6;generalize d9:((w2.setCell ⟨bb,1,none⟩ (.int .i64 (head:Int))).setCell ⟨bb,2,none⟩ (.slice ta (R.treeOf st head).length tc))=w6 at*;have a3:tH w6.heap.size w6 w7:=((j0g _ _).alloc (j0a _) _).trans (b7.mono (by simp));have a9:tH w6.heap.size w6 (w7.alloc (.cells #[.string ⟨([(head:Int)].map byteOf).toArray⟩,.string ⟨name.toArray⟩] 9)):=a3.alloc a3.size _;have d3:=Oq B 66 66 (by decide) (.slice (some ⟨w7.heap.size,0,none⟩) 2 2) [[(head:Int)].map byteOf,name] (d7.out.below a9) (fun _=>False) (yw w7 _ rfl #[.string ⟨([(head:Int)].map byteOf).toArray⟩,.string ⟨name.toArray⟩] 9 (by simp)) (by simp) (by
  intro i hi;simp only[iT,lA,or_false]at hi;rcases hi with rfl|rfl
  ·simp
  ·omega) e6
 have b4:=z9 a9;have d5:Hid ([[(head:Int)].map byteOf,name].flatten=nK head::name):=by
  show _=_;simp[y7]
 clear b7 a3 a9 d9;simp only[DM,H3]at*;go_wp2_with fail
 refine d3.mono ?_;rintro e w9 ⟨rfl,c8⟩;have d8:=z9 c8;clear c8 d3;go_wp2;go_end0
 refine⟨rfl,?_⟩;have h9:=d8.out;rw[d5.out]at h9;rw[HR.out];obtain⟨O2,c6,e2,e3⟩:=h9;refine⟨⟨O2,⟨_,_,_,_,c6⟩,(b5.out.trans ((zf.of_below b4.out).trans e2)),fun b e=> ?_⟩,?_⟩
 ·rcases e3 b e with e|e
  ·exact .inl e
  ·exact .inr (j0f b5.out.size (j0f b4.out.size e))
 ·have:=c6.at_ _ (j0c (l:=LB.set k ({name:=name,head:=head,work:=R.treeOf st head},bb,.slice ta (R.treeOf st head).length tc)) (n:=k) (by rw[List.length_set];exact d6.out))
  rw[List.getElem_set_self]at this;rw[←d4.out];exact⟨this.c1,this.c0⟩
theorem f9 (w:eX):wH sU 24 #[] w fun e w' =>e= .returned (.pointer (some ⟨w.heap.size,0,none⟩))∧w' =w.alloc (.cells #[.slice none 0 0,.slice none 0 0,.slice none 0 0] 102):=by
 go_enter Tryz.func24,Tryz.ntmps24;go_wp2;go_ret;exact⟨rfl,rfl⟩
theorem Vv {w:eX}{M:Nat→Prop}{v:eB}{t:List R.Leaf}(h:PT w M v t):∃a c,v= .slice a t.length c:=by
 obtain⟨L,rfl,⟨a,c,rfl,_⟩,_⟩:=h;exact⟨a,c,by simp⟩
theorem Uk {a b:List UInt8}{k l:Int}(h:b=a)(g:l=k):Ending.returned (.tuple #[.string ⟨a.toArray⟩,.int .i64 k])= .returned (.tuple #[.string ⟨b.toArray⟩,.int .i64 l]):=by rw[h,g]
theorem C2 (B:Nat)(st:R.St)(name:List UInt8)(w:eX)(M O:Nat→Prop)(h:PS w M O B st)(hi:Inv st)(hG:Zp w):
  wH sU 20 #[.pointer (some ⟨B,0,none⟩),.string ⟨name.toArray⟩] w fun e w' =>e= .returned (.tuple #[.string ⟨(R.shown st name).1.toArray⟩,.int .i64 (R.shown st name).2])∧tH w.heap.size w w' :=by
 obtain⟨bv,cv,LB,LCm,hP⟩:=h;have a2:=qv hP hi name;by_cases hf:R.fnd st.brs name<st.brs.length
 ·obtain⟨hl,ha,he,_,a6⟩:=Zy hP name hf
  have a0:¬R.fndI st.brs name<0:=by rw[R.fndI,if_pos hf];omega
  have HR:Hid (R.shown st name=(R.Written (R.workOf st name),0)):=by show _=_;rw[R.shown,if_neg a0]
  have a3:=hP.at_ _ (j0c hl);have a1:=a3.work;have c2:=a3.c2;rw[←a6]at a1;obtain⟨ta,tc,a5⟩:=Vv a1;rw[a5]at c2 a1;have a8:=YG _ (R.workOf st name) w M a1 (ZL hi name).ok (by have:=(ZL hi name).few;omega) hG;rw[ha]at a2;generalize(LB[R.fnd st.brs name]'hl).2.1=bb at*;clear hP hi hf a0 he ha a6 a1 a3 a5 hG;generalize R.workOf st name=t at*;go_enter IT,IU;go_wp2_with fail
  refine a2.mono ?_;rintro e w1 ⟨rfl,a4⟩;subst a4;go_wp2_with fail
  refine a8.mono ?_;rintro e w2 ⟨rfl,a7⟩;go_wp2;go_ret2;exact⟨Uk (by rw[HR.out]) (by rw[HR.out]),a7⟩
 ·have a0:R.fndI st.brs name<0:=by rw[R.fndI,if_neg hf];omega
  have HR:Hid (R.shown st name=([],5)):=by show _=_;rw[R.shown,if_pos a0]
  have ha:Zh LB st name=none:=by rw[Zh,if_neg hf]
  rw[ha]at a2;clear hP hi hf a0 ha;go_enter IT,IU;go_wp2_with fail
  refine a2.mono ?_;rintro e w1 ⟨rfl,a4⟩;subst a4;go_wp2;go_ret2;exact⟨Uk (by rw[HR.out]) (by rw[HR.out]),j0g _ _⟩
theorem Gm (B:Nat)(st:R.St)(w:eX)(M O:Nat→Prop)(h:PS w M O B st)(hi:Inv st):
  wH sU 39 #[.pointer (some ⟨B,0,none⟩)] w fun e w' =>∃va vc,e= .returned (.slice va st.brs.length vc)∧w'.ownsRow w.heap.size 9 1 (.slice va st.brs.length vc) st.brs.length (st.brs.map fun b=>S b.name)∧tH w.heap.size w w' :=by
 obtain⟨bv,cv,LB,LCm,hP⟩:=h;have a3:st.brs.length=LB.length:=by rw[←hP.brs,aN]
 have a5:=hi.many;have hB:=hP.lt B hP.own;have c0:=hP.c0;have HN:Hid (st.brs.map (fun b=>S b.name)=LB.map fun p=>S p.1.name):=by show _=_;rw[←hP.brs,DP];rfl
 have HI:Hid (∀p∈LB,p.2.1<w.heap.size∧w.cell? ⟨p.2.1,0,none⟩=some (.string ⟨p.1.name.toArray⟩)):=fun p hp=>⟨hP.lt _ (hP.blk p hp).1,(hP.at_ p hp).c0⟩
 obtain⟨a,cap,rfl,hn,hm,a6,a2⟩:=zh hP.row;rw[a3];rw[a3]at a5;unfold maxLen at hm;clear hP hi a3;go_enter Tryz.func39,Tryz.ntmps39;go_wp2;go_loopw [3,11] (fun s i wr=>∃k:Nat,k≤LB.length∧i= .int .i64 k∧(∃va vc,s= .slice va k vc)∧wr.ownsRow w.heap.size 9 1 s k ((LB.take k).map fun p=>S p.1.name)∧tH w.heap.size w wr) (fun _ i _=>LB.length-(intOf i).toNat)
 case atStart=>exact⟨0,wB _,rfl,⟨none,0,rfl⟩,World.ownsRow_nil _ _ _ _,j0g _ _⟩
 case round=>
  obtain⟨k,hk,rfl,⟨va,vc,rfl⟩,ho,hb⟩:=hrel;have b1:=hb.size;by_cases a4:k<LB.length
  ·cases a with
   |none=>have:=(a6 rfl).1;omega
   |some ad=>
   obtain⟨g,rfl,_,b4,_,a0⟩:=a2 ad rfl;have e0:=(hb.cell (p:=⟨g,k,none⟩) b4).trans (qm a0 k a4);have a7:=HI.out _ (j0c a4);have n0:=(hb.cell (p:=⟨(LB[k]'a4).2.1,0,none⟩) a7.1).trans a7.2;have HT:Hid ((LB.take (k+1)).map (fun p:BrP=>S p.1.name)=(LB.take k).map (fun p:BrP=>S p.1.name)++ [.string ⟨(LB[k]'a4).1.name.toArray⟩]):=by
    show _=_;rw[nN a4,tB];rfl
   have HO:=z9 ho;generalize(LB[k]'a4).1.name=nm at*;generalize(LB[k]'a4).2.1=bb at*;have b7:=a7.1;clear a0 a2 a6 a7 ho;go_wp2_with (at_builtin;go_loud (refine u_ _ (by rfl) _ _ 45 (by rfl) w.heap.size 9 (.string ⟨#[]⟩) 1 16 Tryz.underlying45 Tryz.info9 (by rfl) (by decide) HO.out #[.string ⟨nm.toArray⟩] rfl (by rfl) (by rfl) (by intro u hu;simp at hu;subst hu;rfl) (by unfold maxLen;omega) (by omega) b1 ?_))
   intro v' w1 a8 a9;have b3:=z9 a8;have b2:Hid (tH w.heap.size w w1):=hb.grown a9 b1 (fun j hj=>(HO.out.lt j hj).1);obtain⟨a1,c1,b6,_⟩:=zh a8;subst b6;clear a8 a9 hb;go_wp2;go_roundw
   case rel=>
    refine⟨k+1,by omega,by go_num,⟨a1,c1,rfl⟩,?_,b2.out⟩;have:=b3.out;rw[←List.map_take,←HT.out]at this;exact this
   case measure=>simp[intOf];omega
  ·have b5:k=LB.length:=by omega
   subst b5;have HO:=z9 ho;clear ho;go_wp2;go_ret;refine⟨va,vc,rfl,?_,hb⟩;have:=HO.out;rw[List.take_length]at this;rw[HN.out];exact this
theorem ZX {w:eX}{M O:Nat→Prop}{B:Nat}{st:R.St}(h:PS w M O B st)(n:Int):
  wH sU 51 #[.pointer (some ⟨B,0,none⟩),.int .i64 n] w fun e w' =>e= .returned (.bool (decide (1≤n∧n≤(st.cms.length:Int))))∧w' =w:=by
 obtain⟨a,c,e0,h1,h2⟩:=h.cms1;unfold maxLen at h2;clear h;by_cases hn:1≤n
 ·by_cases hm:n≤(st.cms.length:Int)
  ·have HS:Hid (decide (1≤n∧n≤(st.cms.length:Int))=true):=decide_eq_true ⟨hn,hm⟩
   rw[HS.out];go_enter IV,IW;go_wp2;go_ret;exact⟨rfl,rfl⟩
  ·have HS:Hid (decide (1≤n∧n≤(st.cms.length:Int))=false):=decide_eq_false (fun e=>hm e.2)
   rw[HS.out];go_enter IV,IW;go_wp2;go_ret;exact⟨rfl,rfl⟩
 ·have HS:Hid (decide (1≤n∧n≤(st.cms.length:Int))=false):=decide_eq_false (fun e=>hn e.1)
  rw[HS.out];go_enter IV,IW;go_wp2;go_ret;exact⟨rfl,rfl⟩
theorem BS (B:Nat)(st:R.St)(n:Int)(w:eX)(M O:Nat→Prop)(h:PS w M O B st)(hi:Inv st)(hG:Zp w):
  wH sU 22 #[.pointer (some ⟨B,0,none⟩),.int .i64 n] w fun e w' =>e= .returned (.tuple #[.string ⟨(R.treeAt st n).1.toArray⟩,.int .i64 (R.treeAt st n).2])∧tH w.heap.size w w' :=by
 have a1:=ZX h n;have HH:=z4 a1;by_cases hc:n<1∨(st.cms.length:Int)<n
 ·have HS:Hid (R.treeAt st n=([],10)):=by show _=_;rw[R.treeAt,if_pos hc]
  have HD:Hid (decide (1≤n∧n≤(st.cms.length:Int))=false):=decide_eq_false (by omega);rw[HD.out]at HH;clear h hi hG a1 hc;go_enter IX,IY;go_wp2_with fail
  refine HH.out.mono ?_;rintro e w1 ⟨rfl,a3⟩;subst a3;go_wp2;go_ret2;exact⟨Uk (by rw[HS.out]) (by rw[HS.out]),j0g _ _⟩
 ·obtain⟨m,rfl⟩:∃m:Nat,n=(m:Int):=⟨n.toNat,by omega⟩
  have HS:Hid (R.treeAt st (m:Int)=(R.Written (R.treeOf st m),0)):=by show _=_;rw[R.treeAt,if_neg hc];rfl
  have HD:Hid (decide (1≤(m:Int)∧(m:Int)≤(st.cms.length:Int))=true):=decide_eq_true (by omega);rw[HD.out]at HH;have a2:=YA hi m;obtain⟨bv,cv,LB,LCm,hP⟩:=h;have HT:=z4 (Yn hP m (by omega) hi.few);have HW:Hid (∀ta tc,PT w M (.slice ta (R.treeOf st m).length tc) (R.treeOf st m)→wH sU 50 #[.slice ta (R.treeOf st m).length tc] w fun e w' =>e= .returned (.string ⟨(R.Written (R.treeOf st m)).toArray⟩)∧tH w.heap.size w w'):=fun ta tc a0=>YG _ _ w M a0 a2.ok (by have:=a2.few;omega) hG
  clear hP hi hG a1 hc a2;generalize R.treeOf st m=t at*;go_enter IX,IY;go_wp2_with fail
  refine HH.out.mono ?_;rintro e w1 ⟨rfl,a3⟩;subst a3;go_wp2_with fail
  refine HT.out.mono ?_;rintro e w2 ⟨ta,tc,rfl,a0,a6⟩;subst a6;have a4:=z4 (HW.out ta tc a0);clear a0;go_wp2_with fail
  refine a4.out.mono ?_;rintro e w3 ⟨rfl,a5⟩;go_wp2;go_ret2;exact⟨Uk (by rw[HS.out]) (by rw[HS.out]),a5⟩
theorem Ow (n:Nat)(w:eX):
  wH sU 59 #[.int .i64 (n:Int)] w fun e w' =>∃pa pc,e= .returned (.slice pa (R.parsOf n).length pc)∧Rd w' (fun b=>b<w.heap.size) (.slice pa (R.parsOf n).length pc) (R.parsOf n).length (Ym (R.parsOf n))∧tH w.heap.size w w' :=by
 by_cases h0:n=0
 ·subst h0
  go_enter IZ,L0;go_wp2;go_ret;exact⟨none,0,rfl,⟨none,0,rfl,j0a _,by unfold maxLen;omega,fun h=>absurd h (by simp[R.parsOf])⟩,j0g _ _⟩
 ·have HS:Hid (R.parsOf n=[n]):=by show _=_;rw[R.parsOf,if_neg h0]
  have b0:((n:Int)==0)=false:=by simp;omega
  clear h0;go_enter IZ,L0;go_wp2;go_ret;rw[HS.out];refine⟨some ⟨w.heap.size,0,none⟩,1,rfl,⟨_,1,rfl,j0a _,by unfold maxLen;omega,fun _=>⟨w.heap.size,0,rfl,by simp,Nat.lt_irrefl _,fun j u hu=> ?_⟩⟩,(j0g _ _).alloc (j0a _) _⟩;match j,hu with
  |0,hu=>simp[Ym]at hu;subst hu;simp
theorem OF {w:eX}{M O:Nat→Prop}{B:Nat}{st:R.St}{bv cv:eB}{LB:List BrP}{LCm:List (R.Cm×eB×eB)}(hP:PSx w M O B st bv cv LB LCm)(hi:Inv st)(p:BrP)(hp:p∈LB):
  wH sU 46 #[.pointer (some ⟨B,0,none⟩),.pointer (some ⟨p.2.1,0,none⟩)] w fun e w' =>∃b:Bool,(b=false↔p.1.work=R.treeOf st p.1.head)∧e= .returned (.bool b)∧tH w.heap.size w w' :=by
 have a3:=hP.at_ p hp;have a6:p.1∈st.brs:=by rw[←hP.brs];exact List.mem_map_of_mem hp
 have a1:=hi.work _ a6;have a2:=YA hi p.1.head;have b3:=hP.lt _ (hP.blk p hp).1;have c1:=a3.c1;have c2:=a3.c2;have a4:=a3.work;obtain⟨ta,tn,tc,a8⟩:∃a n k,p.2.2= .slice a n k:=by obtain⟨L,_,⟨a,k,e,_⟩,_⟩:=a4;exact⟨a,_,k,e⟩
 rw[a8]at c2 a4;have HT:Hid (∀q,wH sU 52 #[.pointer (some ⟨B,0,none⟩),.int .i64 (p.1.head:Int)] (w.drewN q) fun e w' =>∃ta tc,e= .returned (.slice ta (R.treeOf st p.1.head).length tc)∧PT (w.drewN q) M (.slice ta (R.treeOf st p.1.head).length tc) (R.treeOf st p.1.head)∧w' =w.drewN q):=fun q=>Yn (hP.kept (Z:=fun _=>False) (zf.of_below (below_drewN (j0g _ _) q)) (fun _ e=>e.elim) (fun b e=> .inl e) hP.sub) p.1.head (hi.heads _ a6) hi.few
 have HS:Hid (∀q va vc,PT (w.drewN q) M (.slice va (R.treeOf st p.1.head).length vc) (R.treeOf st p.1.head)→wH sU 83 #[.slice ta tn tc,.slice va (R.treeOf st p.1.head).length vc] (w.drewN q) fun e w' =>∃b:Bool,(b=true↔p.1.work=R.treeOf st p.1.head)∧e= .returned (.bool b)∧tH w.heap.size (w.drewN q) w'):=fun q va vc h=>bF _ _ _ _ _ M (a4.below (below_drewN (j0g _ _) q)) h a1.ok a2.ok
 clear a3 a1 a2 a4 a8 hP hi a6 hp;generalize R.treeOf st p.1.head=t at*;generalize p.1.head=hd at*;generalize p.1.work=wk at*;generalize p.2.1=bb at*;go_enter Tryz.func46,Tryz.ntmps46;go_wp2;go_region_held3 (fun w' =>w'.cell? ⟨bb,1,none⟩=some (.int .i64 (hd:Int))∧w'.cell? ⟨bb,2,none⟩=some (.slice ta tn tc)) (go_keep)
  (first
   |(go_at_call 52;refine(HT.out 1).mono ?_;rintro e w9 ⟨va,vc,rfl,a7,b4⟩;subst b4;have b2:=z4 a7;clear a7)
   |(go_at_call 83;refine(HS.out 1 _ _ b2.out).mono ?_;rintro e w9 ⟨b,hb,rfl,a5⟩;have b5:∀o,w9.cell? ⟨bb,o,none⟩=_:=fun o=>a5.cell (p:=⟨bb,o,none⟩) b3;have b1:=z4 a5;have a9:=z4 hb;clear a5 hb))
 all_goals
  rename_i a0;clear a0;go_wp2;go_ret;refine⟨_,?_,rfl,(below_drewN (j0g _ _) 1).trans b1.out⟩;have:=a9.out
  cases b<;>simp at this⊢<;>first|exact this|trivial
