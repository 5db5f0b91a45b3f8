import Derived.Test.YtolgebdmffcemaaGreatDoorQ23
import Derived.Lib.AppendStr
import Derived.Conc.Own4
import Derived.Test.YtolgebdmffcemaaGreatDoorQ15
set_option linter.all false
set_option maxHeartbeats 20000000
set_option maxRecDepth 1000000
open UInt8 renaming ofNat→mA,toNat_inj→D5
open Go.Proofs.Tryz renaming prog→rJ,Builder_Extra_156→D6,func107→D9,underlying100→DC,underlying9→DD,func45→DE,ntmps45→DF,func52→DG,ntmps52→DH,func48→DJ,ntmps48→DK,func54→DM,ntmps54→DN,func26→DO,ntmps26→DP,func29→DR,ntmps29→DS,func37→DT,ntmps37→DU,func181→DV,ntmps181→DW
open Go.Lib renaming IsBuilder→D4,byteCells→rV,byteCells_append→D7,compareBytes→wT
open Nat renaming zero_le→sQ,min_eq_left→DI
open List renaming take_succ_eq_append_getElem→mD,take_of_length_le→mG,length_map→pA,flatten_cons→D8,length_append→mB,length_cons→mC,getElem?_map→rN,map_cons→aB,map_nil→DB,getElem_of_mem→sY,any_eq_true→mL,getElem_map→sA,mem_cons→iC,not_mem_nil→iI,mem_map→pH
open ByteArray renaming size→aF
open Go.Builtin renaming append_→eH
open Bool renaming eq_false_iff→mM,true_eq_false→DQ
open Go.World renaming frozen?_setCell→rW,cell?_of_block→pU,frozen?_of_block→DL,cell?→pV
namespace Go.Proofs.YtolgebdmffcemaaGreatDoor
open Go.RowKit Go.Shelf
def byteOf (n:Int):UInt8:=mA (n % 256).toNat
theorem qu (n:Int):((byteOf n).toNat:Int)=n % 256:=by
 unfold byteOf;rw[jl];have h1:=Int.emod_nonneg n (by decide:(256:Int)≠0);have h2:=Int.emod_lt_of_pos n (by decide:(0:Int)<256);omega
theorem Z_ (n:Nat):byteOf (n:Int)=mA n:=by
 apply D5.1;have h1:=qu (n:Int);have h2:=jl n;omega
def gC:Ren:={Tryz.lays156_ren with f:=fun n=>if n=167 then 136 else Tryz.lays156_ren.f n}
theorem CS:Lays.n167 rJ gC:={Tryz.lays156,D6 with f167:=by kernel_rfl}
theorem FM:gC.t=Tryz.lays156_ren.t:=rfl
theorem cR:Builder.Extra rJ gC:=by
 have h:=D6;refine⟨⟨?_,?_⟩,?_,?_,?_,?_,?_,?_,?_,?_⟩<;>rw[FM]
 ·exact h.sizeBuilder
 ·exact h.liesBuilder
 ·exact h.t5
 ·exact h.a5
 ·exact h.z5
 ·exact h.v5
 ·exact h.infoByte
 ·exact h.cellsByte
 ·exact h.sizeByte
 ·exact h.neB5
theorem gD (w:World)(C:Array Value)(t:TypeId)(hC:C.size≤1000):Rd (w.alloc (.cells C t)) (fun _=>False) (.slice (some ⟨w.heap.size,0,none⟩) C.size C.size) C.size C.toList:=
 ⟨_,C.size,rfl,j0a _,by unfold maxLen;omega,fun _=>⟨w.heap.size,0,rfl,by simp,fun h=>h,fun j u hu=>by
  have:=yG w C t j u hu;have a0:(⟨w.heap.size,0,none⟩:Addr).add j=⟨w.heap.size,0+j,none⟩:=by unfold Addr.add;split<;>simp_all
  rwa[a0]at this⟩⟩
theorem oA (B b:Nat)(bs:List Value)(c:Int)(w:World)(h:D4 134 5 B b bs w)(a0:bs.length+1≤140737488355328)(a1:B≤w.heap.size):
  Calls rJ 136 #[.pointer (some ⟨b,0,none⟩),.int .u8 c] w fun e w' =>e= .returned .nilIface∧(Lib.BuilderAt 134 5 B b (.pointer (some ⟨b,0,none⟩)) (bs++ [.int .u8 c]) w' ∧Below B w w'):=
 Any.Builder_WriteByte CS cR B b bs c w h a0 a1
theorem yF (v:Value)(ns:List Int)(w:World)(M:Nat→Prop)(h:Rd w M v ns.length (ns.map fun n=>Value.int .i64 n))(hl:ns.length≤1000):
  Calls rJ 86 #[v] w fun e w' =>e= .returned (.string ⟨(ns.map byteOf).toArray⟩)∧Below w.heap.size w w' :=by
 obtain⟨a,cap,rfl,hn,hm,hc⟩:=h;unfold maxLen at hm;go_enter Tryz.func86,Tryz.ntmps86;go_wp2;go_loopw [8] (fun i wr=>∃(k:Nat),k≤ns.length∧i= .int .i64 k∧D4 134 5 w.heap.size w.heap.size (rV ((ns.take k).map byteOf)) wr∧Below w.heap.size w wr) (fun i _=>ns.length-(intOf i).toNat)
 case atStart=>exact⟨0,sQ _,rfl,.inl ⟨j0a _,.slice none 0 0,heap_alloc_new w _,World.ownsRow_nil _ _ _ _,by simp[Value.ownBlock]⟩,(j0g _ _).alloc (j0a _) _⟩
 case round=>
  obtain⟨k,hk,rfl,a3,hb⟩:=hrel;have a2:Hid (D4 134 5 w.heap.size w.heap.size (rV ((ns.take k).map byteOf)) wr):=a3;clear a3;have a5:=hb.size;by_cases a4:k<ns.length
  ·obtain⟨b,off,rfl,a9,_,a0⟩:=hc (by omega)
   have e0:=(hb.cell (p:=⟨b,off+k,none⟩) a9).trans (a0 k (.int .i64 ns[k]) (by simp[a4]));have HT:Hid (rV ((ns.take (k+1)).map byteOf)=rV ((ns.take k).map byteOf)++ [.int .u8 (ns[k] % 256)]):=by
    show _=_;rw[mD a4,List.map_append,D7];congr 1
    simp[rV,qu]
   have b1:((ns.take k).map byteOf).length≤1000:=by simp;omega
   generalize ns[k]=x at*;clear a0 hc;go_wp2_with fail
   refine(oA w.heap.size w.heap.size _ _ _ a2.out (by rw[Lib.byteCells_length];omega) a5).mono ?_;rintro e w3 ⟨rfl,a1,a8⟩;have a6:=z9 a1;clear a1;go_wp2;go_roundw
   case rel=>
    refine⟨k+1,by omega,by go_num,?_,hb.trans a8⟩;rw[HT.out];exact .inr a6.out
   case measure=>simp[intOf];omega
  ·go_wp2_with fail
   refine(Tryz.Builder_String_any w.heap.size w.heap.size _ _ a2.out a5).mono ?_;rintro e w1 ⟨rfl,a7⟩;go_wp2;go_ret;exact⟨YI (by rw[mG (by rw[pA];omega)]),hb.trans a7⟩
theorem GH (s:List UInt8)(w:World)(hl:s.length≤1000000000):
  Calls rJ 109 #[.string ⟨s.toArray⟩] w fun e w' =>e= .returned (.int .i64 (((1+R.sumB s) % 251:Nat):Int))∧w' =w:=by
 have a2:=R.sumB_le s;go_enter Tryz.func109,Tryz.ntmps109;go_wp2;go_loop [3,7] (fun t i=>∃k:Nat,k≤s.length∧i= .int .i64 k∧t= .int .i64 ((1+R.sumB (s.take k):Nat):Int)) (fun _ i=>s.length-(intOf i).toNat)
 case atStart=>exact⟨0,sQ _,rfl,rfl⟩
 case round=>
  obtain⟨k,hk,rfl,rfl⟩:=hrel;have a1:=R.sumB_le (s.take k);have a3:(s.take k).length≤s.length:=List.length_take_le' _ _;by_cases a0:k<s.length
  ·have ha:=de s k a0 (by simpa[aF]using a0)
   have HS:Hid (R.sumB (s.take (k+1))=R.sumB (s.take k)+s[k].toNat):=R.sumB_take s k a0;have h8:s[k].toNat<256:=s[k].toNat_lt;go_wp2;go_round
   case rel=>exact⟨k+1,by omega,by go_num,by rw[HS.out];go_num⟩
   case measure=>simp[intOf];omega
  ·have HT:Hid (s.take k=s):=mG (by omega)
   rw[HT.out]at*;go_wp2;go_ret;exact⟨YJ (by omega),rfl⟩
theorem o_ (l:List (List UInt8)):Lib.join l []=l.flatten:=by
 match l with
 |[]=>rfl
 |x::r=>
  rw[Lib.join_cons,D8];congr 1
  clear x;induction r with
  |nil=>rfl
  |cons y r ih=>simp only[Lib.joinTail,List.nil_append,List.map_id']at ih⊢
theorem YY:∀(l:List (List UInt8)),(∀i∈l,i.length≤1000000)→l.flatten.length≤l.length*1000000
 |[],_=>by simp
 |x::r,h=>by
  have:=YY r (fun i hi=>h i (List.mem_cons_of_mem _ hi));have:=h x (List.mem_cons_self ..);simp only[D8,mB,mC];omega
theorem Cv (l:List (List UInt8))(iv:Value)(w:World)(M:Nat→Prop)(h:Rd w M iv l.length (l.map S))(hl:l.length≤100)(hi:∀i∈l,i.length≤1000000):
  Calls rJ 142 #[iv,.string ⟨#[]⟩] w fun e w' =>e= .returned (.string ⟨l.flatten.toArray⟩)∧Below w.heap.size w w' :=by
 obtain⟨a,cap,rfl,hn,hm,hc⟩:=h;rcases Nat.eq_zero_or_pos l.length with h0|h0
 ·have a3:l=[]:=List.eq_nil_of_length_eq_zero h0
  subst a3;refine(Tryz.strings_Join_none a cap _ w).mono ?_;rintro e w' ⟨rfl,rfl⟩;exact⟨rfl,j0g _ _⟩
 ·obtain⟨b,off,rfl,hb,_,a0⟩:=hc h0
  have a1:(l.map fun x=>(⟨x.toArray⟩:ByteArray)).map (·.data.toList)=l:=by rw[List.map_map];exact(List.map_congr_left (fun x _=>by simp)).trans (List.map_id l)
  have hj:=Tryz.strings_Join b off cap (l.map fun x=>(⟨x.toArray⟩:ByteArray)) ⟨#[]⟩ w (fun j x hx=>by
   rw[rN]at hx
   cases hq:l[j]? with
   |none=>rw[hq]at hx;simp at hx
   |some y=>
    rw[hq]at hx;simp at hx;subst hx;exact a0 j _ (by rw[rN,hq];rfl)) hb (by rw[pA];omega) (by rw[pA];exact hn) (by
    rw[a1];have:=YY l hi;have e:Lib.join l []=l.flatten:=o_ l;simp only;rw[e];omega)
  rw[a1,pA]at hj;refine hj.mono ?_;rintro e w' ⟨rfl,a2⟩;exact⟨by simp only;rw[o_ l],a2⟩
theorem Oc (c:UInt8)(v:Value)(l:List (List UInt8))(w:World)(M:Nat→Prop)(h:Rd w M v l.length (l.map S))(hl:l.length≤10)(hi:∀i∈l,i.length≤1000000):
  Calls rJ 107 #[.int .u8 (c.toNat:Int),v] w fun e w' =>e= .returned (.string ⟨(R.record c l.flatten).toArray⟩)∧Below w.heap.size w w' :=by
 have b1:=YY l hi;have hJ:=Cv l v w M h (by omega) hi;have a9:(c.toNat:Int)<256:=by have:=c.toNat_lt;omega
 have HR:Hid (R.record c l.flatten=R.recHead c l.flatten++ [mA ((1+R.sumB (R.recHead c l.flatten)) % 251)]):=rfl;have HH:Hid (R.recHead c l.flatten=[byteOf (c.toNat:Int),byteOf ((l.flatten.length:Int)/256),byteOf (l.flatten.length:Int)]++l.flatten):=by
  show _=_;have e1:byteOf (c.toNat:Int)=c:=by
   apply D5.1;have:=qu (c.toNat:Int);omega
  have e2:byteOf ((l.flatten.length:Int)/256)=mA (l.flatten.length/256):=by
   have:=Z_ (l.flatten.length/256);simpa using this
  have e3:byteOf (l.flatten.length:Int)=mA (l.flatten.length % 256):=by
   apply D5.1;have h1:=qu (l.flatten.length:Int);have h2:=jl (l.flatten.length % 256);omega
  rw[e1,e2,e3];rfl
 obtain⟨va,vc,rfl⟩:∃va vc,v= .slice va l.length vc:=by obtain⟨a,cap,e,_⟩:=h;exact⟨a,cap,e⟩
 clear h hi;generalize l.flatten=body at*;have b2:(R.recHead c body).length≤100000003:=by rw[HH.out];simp;omega
 go_enter D9,Tryz.ntmps107;go_wp2_with fail
 refine hJ.mono ?_;rintro e w1 ⟨rfl,a3⟩;have q0:(body.length:Int)≤100000000:=by omega
 have a1:=yF (.slice (some ⟨w1.heap.size,0,none⟩) 3 3) [(c.toNat:Int),(body.length:Int)/256,(body.length:Int)] (w1.alloc (.cells #[.int .i64 (c.toNat:Int),.int .i64 ((body.length:Int)/256),.int .i64 (body.length:Int)] 3)) (fun _=>False)
  (gD w1 #[.int .i64 (c.toNat:Int),.int .i64 ((body.length:Int)/256),.int .i64 (body.length:Int)] 3 (by simp)) (by simp)
 clear hJ;go_wp2_with fail
 refine a1.mono ?_;rintro e w2 ⟨rfl,a6⟩;clear a1;have q2:¬9223372036854775807< [byteOf (c.toNat:Int),byteOf ((body.length:Int)/256),byteOf (body.length:Int)].length+body.length:=by simp;omega
 have a0:Hid (Below w.heap.size w w2):=a3.trans (((j0g _ _).alloc (j0a _) _).trans (a6.mono (by simp))|>.mono a3.size);simp only[aB,DB]at*;go_wp2_with fail
 rw[jF,←HH.out];have a4:=GH (R.recHead c body) w2 (by omega);have a2:=yF (.slice (some ⟨w2.heap.size,0,none⟩) 1 1) [(((1+R.sumB (R.recHead c body)) % 251:Nat):Int)] (w2.alloc (.cells #[.int .i64 (((1+R.sumB (R.recHead c body)) % 251:Nat):Int)] 3)) (fun _=>False)
  (gD w2 #[.int .i64 (((1+R.sumB (R.recHead c body)) % 251:Nat):Int)] 3 (by simp)) (by simp)
 generalize R.recHead c body=s at*;generalize(1+R.sumB s) % 251=ck at*;refine a4.mono ?_;rintro e w3 ⟨rfl,a8⟩;subst a8;clear a4;go_wp2_with fail
 refine a2.mono ?_;rintro e w4 ⟨rfl,a7⟩;simp only[aB,DB]at*;have a5:Hid (Below w.heap.size w w4):=a0.out.trans (((j0g _ _).alloc (j0a _) _).trans (a7.mono (by simp))|>.mono a0.out.size);have q4:¬9223372036854775807<s.length+ [byteOf (ck:Int)].length:=by simp;omega
 clear a2;go_wp2;go_ret;exact⟨YI (by rw[HR.out,←Z_,←jF]),a5.out⟩
theorem oh {P:Program}{ops:Array Oper}{o:Oper}{a:Act}{w:World}{K:Act→World→Prop}{Q:Exit→Act→World→Prop}{E:Prop}(hg:o.guard=none){f:FuncId}{fn:Func}{args:Array Operand}{a0:Array TypeId}(a1:o.op=Op.call {callee:=Callee.value (Operand.func f),args:=args,argTypes:=a0})
  (hf:P.funcs[f]? =some fn)(hn:(fn.name== "runtime.NumGoroutine")=false)(hb:fn.body.isNone=false){vals:Array Value}(hv:args.map a.eval=vals){R:Value→World→Prop}(hC:Calls P f vals w fun e w' =>∃v,e= .returned v∧R v w')(hK:∀v w',R v w' →K (a.put o.dst v) w'):
  if Region.wanted o (yielded ops a.tmps)=true then Oper.wp P o a w K Q else E:=by
 rw[if_pos (by simp[Region.wanted,hg])];unfold Oper.wp;rw[Conc.run_call_body a1 hf hn hb,hv];exact hC.mono fun e w' ⟨v,he,hr⟩=>by subst he;exact hK v w' hr
theorem vk {P:Program}(w:World)(base:Nat)(t u ty e:TypeId)(i:TypeInfo)(ht:P.underlying t=some (.slice e))(hu:P.underlying u=some .string)(hi:P.info? e=some i)(hz:i.zero=some (.int .u8 0))(a0:i.size=1)(a7:i.bytes=1)
  (v:Value)(n:Nat)(xs:List Value)(a1:w.ownsRow base e 1 v n xs)(s:ByteArray)(hs:0<s.size)(a4:n+s.size≤140737488355328){v' :Value}{w' :World}(hr:(eH #[t,u] ty #[v,.string s]).run P w= .ok v' w'):
  ∀g,v'.ownBlock=some g→v.ownBlock=some g∨w.heap.size≤g:=by
 have b2:xs.length=n:=by simpa using a1.1
 rcases a1.2 with⟨rfl,rfl⟩|⟨g,cap,a6,rfl,b3,hg,b5,b4,a9,a8⟩
 ·have h1:=run_append_nil_string (P:=P) w t u ty e i (.int .u8 0) ht hu hi hz s (by omega) (by omega) (by rw[a7];omega)
  rw[h1]at hr;injection hr with hv _
  subst hv;intro g hg;simp[Value.ownBlock]at hg;exact .inr (by omega)
 ·by_cases a3:n+s.size≤cap
  ·have b1 :a6.size=cap:=by simpa using a9
   have h1:=Lib.run_append_room_string (P:=P) w t u ty e i ht hu hi a0 g n cap a6 hg s a3 (by omega);rw[h1]at hr;injection hr with hv _
   subst hv;intro g' a5;exact .inl (by simpa[Value.ownBlock]using a5)
  ·have a2:∀j u,xs[j]? =some u→w.cell? ((⟨g,0,none⟩:Addr).add j)=some u:=a1.cells (g:=g) rfl
   have h1:=Lib.run_append_grow_string (P:=P) w t u ty e i (.int .u8 0) ht hu hi hz ⟨g,0,none⟩ n cap xs (by rw[a0];simpa using b2) a2 s (by omega) (by omega) (by rw[a7];exact growslice_fits (by omega) (by omega));rw[h1]at hr;injection hr with hv _
   subst hv;intro g' a5;simp[Value.ownBlock]at a5;exact .inr (by omega)
theorem Tryz.info5:(Tryz.prog.info? 5).map (fun i=>(i.zero,i.size,i.bytes))=some (some (.int .u8 0),1,1):=by kernel_rfl
theorem R.record_len (c:UInt8)(b:List UInt8):(R.record c b).length=b.length+4:=by simp[R.record,R.recHead]
theorem K_ (B:Nat)(c:UInt8)(ci:Int)(b8:(c.toNat:Int)=ci)(v:Value)(l:List (List UInt8)){w:World}{M O:Nat→Prop}{st:R.St}{bv cv:Value}{LB:List BrP}{LCm:List (R.Cm×Value×Value)}(hP:PSx w M O B st bv cv LB LCm)(Mr:Nat→Prop)(h:Rd w Mr v l.length (l.map S))(hl:l.length≤10)(hi:∀i∈l,i.length≤1000000)(d7:st.packed.length≤1000000000000):
  Calls rJ 69 #[.pointer (some ⟨B,0,none⟩),.int .u8 ci,v] w fun e w' =>e= .returned (.tuple #[])∧zv w w' M O B {st with packed:=st.packed++R.record c l.flatten}:=by
 subst b8;have a5:=fun W (hW:Below w.heap.size w W)=>Oc c v l W Mr (h.below hW) hl hi
 have d8:(R.record c l.flatten).length≤100000000:=by rw[R.record_len];have:=YY l hi;omega
 obtain⟨va,vc,rfl⟩:∃va vc,v= .slice va l.length vc:=by obtain⟨a,cap,e,_⟩:=h;exact⟨a,cap,e⟩
 obtain⟨pv,a0⟩:=hP.pk;have c2:=a0.c2;have b6:=hP.fr 2;have a4:=hP.lt B hP.own;obtain⟨i0,a9,b1,b2,b3⟩:=info_parts Tryz.info5;obtain⟨pa,pc,a1,_⟩:=zl a0.row;have HP:=z9 hP;have b5:=z9 a0;have d4:=z9 a1;have a7:∀W,Below w.heap.size w W→∃a3 n3 k3 w3,(eH #[100,9] 100 #[.slice pa st.packed.length pc,.string ⟨(R.record c l.flatten).toArray⟩]).run rJ W= .ok (.slice a3 n3 k3) w3∧Hid (w3.ownsRow 0 5 1 (.slice a3 n3 k3) (st.packed++R.record c l.flatten).length (rV (st.packed++R.record c l.flatten)))∧Hid (ze (fun b=>pv.ownBlock=some b) w w3)∧Hid (∀g,(Value.slice a3 n3 k3).ownBlock=some g→pv.ownBlock=some g∨w.heap.size≤g)∧w3.cell? ⟨B,2,none⟩=some (.slice pa st.packed.length pc)∧w3.frozen? ⟨B,2,none⟩=false:=by
  intro W hW;have a2:=Zm a0.row hW;obtain⟨v3,w3,h1,h2,h3,h4⟩:=Lib.run_append_own_string (P:=rJ) W 0 100 9 100 5 i0 DC DD a9 b1 b2 b3 pv st.packed.length (rV st.packed) a2 ⟨(R.record c l.flatten).toArray⟩ (by simp[aF,maxLen];omega) (by simp[aF];omega) (sQ _);have a6:pv.ownBlock≠some B:=fun e=>(a0.rowO B e).2.1 rfl
  have d5:W.heap.size≤w3.heap.size:=h3.size;have d6:=hW.size;have hK:ze (fun b=>pv.ownBlock=some b) w w3:=⟨h3.os.trans hW.os,h3.tape.trans hW.tape,h3.output.trans hW.output,by omega,fun k hk hn=>by
   rw[h3.block k (by omega) (fun e=>hn e.symm)];exact hW.block k hk⟩
  have b7:=vk (P:=rJ) W 0 100 9 100 5 i0 DC DD a9 b1 b2 b3 pv st.packed.length (rV st.packed) a2 ⟨(R.record c l.flatten).toArray⟩ (by simp[aF,R.record_len]) (by simp[aF];omega) h1;obtain⟨a3,k3,c9,_⟩:=zl h2;subst c9;refine⟨a3,_,k3,w3,by rw[←a1];exact h1,?_,hK,?_,?_,?_⟩
  ·show World.ownsRow _ _ _ _ _ _ _
   rw[Lib.strCells_eq,←D7]at h2;simpa[aF]using h2
  ·intro g hg
   rcases b7 g hg with h|h
   ·exact .inl h
   ·exact .inr (by omega)
  ·rw[hK.cell (p:=⟨B,2,none⟩) a4 a6,c2,a1]
  ·rw[hK.frozen (p:=⟨B,2,none⟩) a4 a6];exact b6
 rw[a1]at c2;have b4:=z9 a7;clear hP a0 a1 a7 h hi;generalize R.record c l.flatten=rc at*;generalize st.packed++rc=pk2 at*;go_enter Tryz.func69,Tryz.ntmps69;go_wp2_with fail
 go_region_law (first
  |((refine vp (by rfl) (.tmp 10) (.tmp 13) 100 9 (by rfl) (.slice pa st.packed.length pc) (.string ⟨rc.toArray⟩) (by rfl) (by rfl) (by exact c8) ?_))
  |((refine oh (R:=fun v w1=>v= .string ⟨rc.toArray⟩∧Below w.heap.size w w1) (by rfl) (by rfl) D9 (by rfl) (by rfl) (vals:= #[.int .u8 (c.toNat:Int),.slice va l.length vc]) (by simp[Act.eval,Act.put]) ((a5 _ (j0g _ _).drew).mono fun e w1 ⟨he,hb⟩=>⟨_,he,rfl,((j0g _ _).drew).trans hb⟩) ?_;rintro v0 w1 ⟨rfl,a8⟩;have d2:w1.cell? ⟨B,2,none⟩=some (.slice pa st.packed.length pc):=(a8.cell (p:=⟨B,2,none⟩) a4).trans c2;obtain⟨a3,n3,k3,w3,c8,c7,b9,c6,d3,g3⟩:=b4.out w1 a8)))
 all_goals
  go_end0
  exact⟨rfl,FD HP.out b5.out b9.out c7.out c6.out⟩
theorem GG (b:Nat)(name s:List UInt8)(w:World)(h0:w.cell? ⟨b,0,none⟩=some (.string ⟨name.toArray⟩)):
  Calls rJ 105 #[.pointer (some ⟨b,0,none⟩),.string ⟨s.toArray⟩] w fun e w' =>e= .returned (.int .i64 (wT name s))∧w' =w:=by
 go_enter Tryz.func105,Tryz.ntmps105;go_wp2_with fail
 refine(Tryz.strings_Compare _ _ _).mono ?_;rintro e w1 ⟨rfl,rfl⟩;go_wp2;go_ret;exact⟨rfl,rfl⟩
theorem gu (bv:Value)(L:List BrP)(t:List R.Br)(s:List UInt8)(w:World)(M:Nat→Prop)(hL:L.map (·.1)=t)(b5:w.ownsRow 0 88 1 bv L.length (xY L))(hI:∀p∈L,kl w M p)(hl:t.length≤1000000)(a4:zW R.Br.name t):
  Calls rJ 104 #[bv,.string ⟨s.toArray⟩,.func (.func 105) #[] #[]] w fun e w' =>e= .returned (.tuple #[.int .i64 (yC R.Br.name t s:Int),.bool (t.any fun x=>x.name==s)])∧w' =w:=by
 obtain⟨a,cap,rfl,hn,hm,b3,a7⟩:=zl b5;have a9:t.length=L.length:=by rw[←hL,pA]
 have HT:Hid (∀(i:Nat) (h:i<L.length) (hb:i<t.length),t[i]'hb=(L[i]'h).1):=by intro i h hb;subst hL;simp
 have a5:Hid (t.length=L.length):=a9;rw[a9]at hl;have a6:=a4.mono s;unfold maxLen at hm;have HS:Hid (∀(i j:Nat) (hi:i<t.length) (hj:j<t.length),i<j→Op.bytesLess t[i].name t[j].name=true):=(Zx _ _).1 a4;have HI:=z9 hI;clear a9 hL b5 a4 hI;go_enter Tryz.func104,Tryz.ntmps104;go_wp2;go_loop [9,10] (fun i j=>∃p q:Nat,p≤q∧q≤L.length∧i= .int .i64 p∧j= .int .i64 q∧(∀k (h:k<t.length),k<p→zF s t[k].name=true)∧(∀k (h:k<t.length),q≤k→zF s t[k].name=false)) (fun i j=>(intOf j).toNat-(intOf i).toNat)
 case atStart=>exact⟨0,L.length,sQ _,j0a _,rfl,rfl,fun k _ h=>by omega,fun k h h' =>by rw[a5.out]at h;omega⟩
 case round=>
  obtain⟨p,q,d4,hq,rfl,rfl,hA,hB⟩:=hrel;have HA:=z9 hA;have HB:=z9 hB;have b9:=z9 a6;clear hA hB a6;by_cases c9:p<q
  ·cases a with
   |none=>have:=(b3 rfl).1;omega
   |some ad=>
   obtain⟨g,rfl,_,_,_,a0⟩:=a7 ad rfl;obtain⟨h,hh⟩:∃h:Nat,h=(p+q)/2:=⟨_,rfl⟩
   have d3:p≤h:=by omega
   have d5:h<q:=by omega
   have a3:h<L.length:=by omega
   have c8:((p:Int)+(q:Int))/2=(h:Int):=by omega
   have e0:=Qv a0 h a3;have n0:=(HI.out _ (j0c a3)).c0;have HX:Hid (t[h]'(by rw[a5.out];exact a3)=(L[h]'a3).1):=HT.out h a3 _;generalize(L[h]'a3).1.name=nm at n0;generalize b4:(L[h]'a3).2.1=bb at e0 n0;obtain⟨a1,b2,b8⟩:∃a1,Hid ((L[h]'a3).1.name=a1)∧w.cell? ⟨bb,0,none⟩=some (.string ⟨a1.toArray⟩):=⟨_,(rfl:_=_),by rw[←b4];exact(HI.out _ (j0c a3)).c0⟩
   clear a0 hh b4 n0;go_wp2_with fail
   refine(GG bb a1 s _ b8).mono ?_;rintro e w1 ⟨rfl,b7⟩;subst b7;have c7:=Xv a1 s;generalize b6:wT a1 s=c at c7;by_cases c6:c<0
   ·have HC:Hid (zF s a1 =true):=by show _=_;rw[zF,←Yg,b6];simpa using c6
    clear b6;go_wp2;go_round
    case rel=>
     refine⟨h+1,q,by omega,by omega,by go_num,rfl,fun k hk h1=>b9.out k h hk (by rw[a5.out];exact a3) (by omega) (by rw[HX.out,b2.out];exact HC.out),HB.out⟩
    case measure=>simp[intOf];omega
   ·have HC:Hid (zF s a1 =false):=by show _=_;rw[zF,←Yg,b6];simpa using c6
    clear b6;go_wp2;go_round
    case rel=>
     refine⟨p,h,by omega,by omega,rfl,rfl,HA.out,fun k hk h1=> ?_⟩;rw[mM];intro h3;have:=b9.out h k (by rw[a5.out];exact a3) hk h1 h3;rw[HX.out,b2.out,HC.out]at this;cases this
    case measure=>simp[intOf];omega
  ·obtain rfl:p=q:=by omega
   have HP:Hid (yC R.Br.name t s=p):=by
    show _=_;unfold yC;by_cases a2:p<t.length
    ·rw[List.findIdx_eq a2]
     exact⟨by simpa using HB.out p a2 (j0a _),fun j hj=>by simpa using HA.out j (by omega) hj⟩
    ·obtain rfl:p=t.length:=by rw[a5.out]at a2⊢;omega
     refine List.findIdx_eq_length.2 fun y hy=> ?_
     obtain⟨k,hk,rfl⟩:=sY hy;simpa using HA.out k hk hk
   have HN:Hid (∀k (hk:k<t.length),k<p→(t[k].name==s)=false):=by
    intro k hk a8;have:=HA.out k hk a8;rw[mM];intro e;rw[zF,beq_iff_eq.1 e,zm]at this;cases this
   by_cases a2:p<L.length
   ·cases a with
    |none=>have:=(b3 rfl).1;omega
    |some ad=>
    obtain⟨g,rfl,_,_,_,a0⟩:=a7 ad rfl;have e0:=Qv a0 p a2;have HX:Hid (t[p]'(by rw[a5.out];exact a2)=(L[p]'a2).1):=HT.out p a2 _;generalize b4:(L[p]'a2).2.1=bb at e0;obtain⟨a1,b2,b8⟩:∃a1,Hid ((L[p]'a2).1.name=a1)∧w.cell? ⟨bb,0,none⟩=some (.string ⟨a1.toArray⟩):=⟨_,(rfl:_=_),by rw[←b4];exact(HI.out _ (j0c a2)).c0⟩
    have HY:Hid ((t.any fun y=>y.name==s)=(a1 ==s)):=by
     show _=_
     cases he:(a1 ==s)
     ·rw[mM]
      intro h;obtain⟨y,hy,b1⟩:=mL.1 h;obtain⟨k,hk,rfl⟩:=sY hy;rcases Nat.lt_trichotomy k p with a8|a8|a8
      ·have:=HN.out k hk a8;rw[b1]at this;cases this
      ·subst a8;rw[HX.out,b2.out,he]at b1;cases b1
      ·have h1:=HS.out p k (by rw[a5.out];exact a2) hk a8
       have h2:=HB.out p (by rw[a5.out];exact a2) (j0a _);rw[beq_iff_eq.1 b1]at h1;rw[zF,h1]at h2;cases h2
     ·exact mL.2 ⟨t[p]'(by rw[a5.out];exact a2),j0c _,by rw[HX.out,b2.out];exact he⟩
    clear a0 b4;go_wp2_with fail
    refine(GG bb a1 s _ b8).mono ?_;rintro e w1 ⟨rfl,b7⟩;subst b7;have HQ:=z9 (vT a1 s);generalize wT a1 s=c at HQ;go_wp2;go_ret2;exact⟨vt (by rw[HP.out]) (by rw[HY.out,HQ.out]),rfl⟩
   ·have HY:Hid ((t.any fun y=>y.name==s)=false):=by
     show _=_;rw[mM];intro h;obtain⟨y,hy,b1⟩:=mL.1 h;obtain⟨k,hk,rfl⟩:=sY hy;have:=HN.out k hk (by rw[a5.out]at hk;omega);rw[b1]at this;cases this
    go_wp2;go_ret2;exact⟨vt (by rw[HP.out]) HY.out,rfl⟩
theorem kb {w:World}{M O:Nat→Prop}{B:Nat}{st:R.St}{bv cv:Value}{LB:List BrP}{LCm:List (R.Cm×Value×Value)}(h:PSx w M O B st bv cv LB LCm)(hi:Inv st)(s:List UInt8):
  Calls rJ 67 #[.pointer (some ⟨B,0,none⟩),.string ⟨s.toArray⟩] w fun e w' =>e= .returned (.tuple #[.int .i64 (yC R.Br.name st.brs s:Int),.bool (st.brs.any fun x=>x.name==s)])∧w' =w:=by
 have hs:=gu bv LB st.brs s w M h.brs h.row h.at_ (by have:=hi.many;omega) hi.sort;have c0:=h.c0;clear h hi;go_enter Tryz.func67,Tryz.ntmps67;go_wp2_with fail
 refine hs.mono ?_;rintro e w1 ⟨rfl,a0⟩;subst a0;go_wp2;go_ret2;exact⟨rfl,rfl⟩
def Zp (LB:List BrP)(st:R.St)(s:List UInt8):Option Addr:=if R.fnd st.brs s<st.brs.length then(LB[R.fnd st.brs s]?).map (fun p=>⟨p.2.1,0,none⟩)else none
theorem Qa {w:World}{M O:Nat→Prop}{B:Nat}{st:R.St}{bv cv:Value}{LB:List BrP}{LCm:List (R.Cm×Value×Value)}(h:PSx w M O B st bv cv LB LCm)(hi:Inv st)(s:List UInt8):
  Calls rJ 45 #[.pointer (some ⟨B,0,none⟩),.string ⟨s.toArray⟩] w fun e w' =>e= .returned (.pointer (Zp LB st s))∧w' =w:=by
 have hs:=kb h hi s;have c0:=h.c0;have a4:st.brs.length=LB.length:=by rw[←h.brs,pA]
 obtain⟨a,cap,rfl,hn,hm,a2,a0⟩:=zl h.row;unfold maxLen at hm;rw[QE]at hs;by_cases hf:R.fnd st.brs s<st.brs.length
 ·have HA:Hid (Zp LB st s=some ⟨(LB[R.fnd st.brs s]'(by omega)).2.1,0,none⟩):=by
   show _=_;rw[Zp,if_pos hf,j0d (by omega)];rfl
  rw[decide_eq_true hf,←j5 hi.sort s hf]at hs
  cases a with
  |none=>have:=(a2 rfl).1;omega
  |some ad=>
  obtain⟨g,rfl,_,_,_,a1⟩:=a0 ad rfl;have e0:=Qv a1 (R.fnd st.brs s) (by omega);generalize(LB[R.fnd st.brs s]'(by omega)).2.1=bb at e0 HA;have a5:R.fnd st.brs s<LB.length:=by omega
  clear h hi a1 a0 a2 a4 hf;generalize R.fnd st.brs s=k at*;go_enter DE,DF;go_wp2_with fail
  refine hs.mono ?_;rintro e w1 ⟨rfl,a3⟩;subst a3;go_wp2;go_ret;exact⟨by rw[HA.out];rfl,rfl⟩
 ·have HA:Hid (Zp LB st s=none):=by show _=_;rw[Zp,if_neg hf]
  rw[decide_eq_false hf]at hs;clear h hi a0 a2 a4 hf;go_enter DE,DF;go_wp2_with fail
  refine hs.mono ?_;rintro e w1 ⟨rfl,a3⟩;subst a3;go_wp2;go_ret;exact⟨by rw[HA.out];rfl,rfl⟩
theorem uA:∀(L:List (R.Cm×Value×Value)) (i:Nat) (h:i<L.length),(YC L)[i*2+1]? =some (L[i]'h).2.2
 |p::r,0,_=>by simp[YC]
 |p::r,i+1,h=>by
  have ih:=uA r i (by simpa using h);unfold YC at ih⊢;rw[List.flatMap_cons,show(i+1)*2+1=(i*2+1)+2 from by omega];simpa using ih
theorem Ye {w:World}{M O:Nat→Prop}{B:Nat}{st:R.St}{bv cv:Value}{LB:List BrP}{LCm:List (R.Cm×Value×Value)}(h:PSx w M O B st bv cv LB LCm)(n:Nat)(hn:n≤st.cms.length)(_hc:st.cms.length≤60):
  Calls rJ 52 #[.pointer (some ⟨B,0,none⟩),.int .i64 (n:Int)] w fun e w' =>∃ta tc,e= .returned (.slice ta (R.treeOf st n).length tc)∧PT w M (.slice ta (R.treeOf st n).length tc) (R.treeOf st n)∧w' =w:=by
 by_cases h0:n=0
 ·subst h0
  have ht:R.treeOf st 0=[]:=by simp[R.treeOf]
  rw[ht];clear h;go_enter DG,DH;go_wp2;go_ret;exact⟨none,0,rfl,⟨[],rfl,⟨none,0,rfl,by simp,by unfold maxLen;omega,fun h=>by simp at h⟩,by simp⟩,rfl⟩
 ·have a6:st.cms.length=LCm.length:=by rw[←h.cms,pA]
  have a2:n-1<LCm.length:=by omega
  have hT:R.treeOf st n=(LCm[n-1]'a2).1.tree:=by
   rw[R.treeOf,if_neg h0,←h.cms,rN,j0d a2];rfl
  have hp:=h.ctree _ (j0c a2);rw[←hT]at hp;have c1:=h.c1;obtain⟨a,cap,rfl,a7,hm,a3,a1⟩:=zl h.crow
  cases a with
  |none=>have:=(a3 rfl).1;omega
  |some ad=>
  obtain⟨g,rfl,_,_,_,a0⟩:=a1 ad rfl;have e1:=a0 _ _ (uA LCm (n-1) a2);obtain⟨ta,tc,hv⟩:∃a c,(LCm[n-1]'a2).2.2= .slice a (R.treeOf st n).length c:=by
   obtain⟨L,hL,⟨a,c,hv,_⟩,_⟩:=hp;exact⟨a,c,by rw[hv,←hL,pA]⟩
  rw[hv]at e1 hp;unfold maxLen at hm;have HP:=z9 hp;have a8:((n:Int)==0)=false:=by rw[mM];simp;omega
  have a4:(n:Int)-1=((n-1:Nat):Int):=by omega
  clear h a0 a1 a3 hT hp hv h0;generalize R.treeOf st n=tr at*;obtain⟨m,a5⟩:∃m,m=n-1:=⟨_,rfl⟩
  rw[←a5]at e1 a2 a4;clear a5;go_enter DG,DH;go_wp2;go_ret;exact⟨ta,tc,rfl,HP.out,rfl⟩
theorem ym (w:World)(n:Nat)(hn:w.heap.size=n)(C:Array Value)(t:TypeId)(hC:C.size≤1000):Rd (w.alloc (.cells C t)) (fun _=>False) (.slice (some ⟨n,0,none⟩) C.size C.size) C.size C.toList:=by
 subst hn;exact gD w C t hC
theorem ze.then {O O1:Nat→Prop}{w w1 w2:World}(h:ze O w w1)(hO:∀b,O1 b→O b∨w.heap.size≤b)(h2:ze O1 w1 w2):ze O w w2:=
 ⟨h2.os.trans h.os,h2.tape.trans h.tape,h2.output.trans h.output,j0f h.size h2.size,fun k hk hn=>by
  rw[h2.block k (j0b hk h.size) (fun e=>by rcases hO k e with e|e;exact hn e;omega)];exact h.block k hk hn⟩
def xu (st:R.St)(name:List UInt8)(head:Nat):R.St:=
 if R.fnd st.brs name<st.brs.length then {st with brs:=st.brs.set (R.fnd st.brs name) {name:=name,head:=head,work:=R.treeOf st head},packed:=st.packed++R.record 66 (mA head::name)}
 else R.headNew st {name:=name,head:=head,work:=R.treeOf st head}
theorem kq {w:World}{M:Nat→Prop}{p:BrP}(a0:kl w M p)(name:List UInt8)(hn:p.1.name=name)(head:Nat){tv:Value}{t:List R.Leaf}(a1:PT ((w.setCell ⟨p.2.1,1,none⟩ (.int .i64 (head:Int))).setCell ⟨p.2.1,2,none⟩ tv) M tv t):
  kl ((w.setCell ⟨p.2.1,1,none⟩ (.int .i64 (head:Int))).setCell ⟨p.2.1,2,none⟩ tv) M ({name:=name,head:=head,work:=t},p.2.1,tv):=by
 subst hn;refine⟨?_,?_,?_,fun o=> ?_,a1⟩
 ·rw[zL _ _ _ _ _ (by omega),zL _ _ _ _ _ (by omega)];exact a0.c0
 ·rw[zL _ _ _ _ _ (by omega)];exact Ya _ _ _ _ _ a0.c1
 ·exact Ya _ _ _ _ p.2.2 (by rw[zL _ _ _ _ _ (by omega)];exact a0.c2)
 ·rw[rW,rW];exact a0.fr o
theorem cr (w:World)(bb:Nat)(u tv:Value):ze (fun b=>b=bb) w ((w.setCell ⟨bb,1,none⟩ u).setCell ⟨bb,2,none⟩ tv):=
 ((ze.refl (fun b=>b=bb) w).setCell (p:=⟨bb,1,none⟩) (.inl rfl) u).setCell (p:=⟨bb,2,none⟩) (.inl rfl) tv
theorem cz (l:List R.Br)(name:List UInt8)(h:Nat)(t:List R.Leaf):R.insB l {name:=name,head:=h,work:=t}=(R.insB l {name:=name,head:=0,work:=[]}).set (R.pos l name) {name:=name,head:=h,work:=t}:=by
 have a0:R.pos l name≤l.length:=List.findIdx_le_length;unfold R.insB;simp only;rw[List.set_append_right _ _ (by simp;omega)];simp[DI a0]
theorem GE (B:Nat)(st:R.St)(name:List UInt8)(head:Nat)(w:World)(M O:Nat→Prop)(h:PS w M O B st)(hi:Inv st)(hh:head≤st.cms.length)(k8:name.length≤1000)(i2:st.packed.length≤1000000000000):
  Calls rJ 48 #[.pointer (some ⟨B,0,none⟩),.string ⟨name.toArray⟩,.int .i64 (head:Int)] w fun e w' =>e= .returned (.tuple #[])∧zv w w' M O B (xu st name head):=by
 obtain⟨bv,cv,LB,LCm,hP⟩:=h;have c6:=kb hP hi name;rw[QE]at c6;have d8:st.brs.length=LB.length:=by rw[←hP.brs,pA]
 obtain⟨a,cap,d4,hn,hm,b9,a5⟩:=zl hP.row;have c0:=hP.c0;rw[d4]at c0;unfold maxLen at hm;have g7:=hP.lt B hP.own;have d5:=hi.few;by_cases hf:R.fnd st.brs name<st.brs.length
 ·have HR:Hid (xu st name head={st with brs:=st.brs.set (R.fnd st.brs name) {name:=name,head:=head,work:=R.treeOf st head},packed:=st.packed++R.record 66 (mA head::name)}):=by show _=_;rw[xu,if_pos hf]
  rw[decide_eq_true hf,←j5 hi.sort name hf]at c6;have hl:R.fnd st.brs name<LB.length:=by omega
  have g2:(LB[R.fnd st.brs name]'hl).1.name=name:=by
   have:(LB[R.fnd st.brs name]'hl).1=(st.brs[R.fnd st.brs name]'hf):=by simp only[←hP.brs,sA]
   rw[this];exact R.fnd_name _ _ hf
  have c7:=Ye hP head hh d5;have a7:=hP.at_ _ (j0c hl);have hO:=(hP.blk _ (j0c hl)).1;have k6:=hP.lt _ hO;have k1:=a7.c1;have k2:=a7.c2;have f1:=a7.fr 1;have f2:=a7.fr 2;have HP:=z9 hP;have k4:=z9 g2;have HH:=z9 a7
  cases a with
  |none=>have:=(b9 rfl).1;omega
  |some ad=>
  obtain⟨g,rfl,_,k7,_,b2⟩:=a5 ad rfl;have e0:=Qv b2 (R.fnd st.brs name) hl;have HS:Hid (∀(tv:Value) (t:List R.Leaf),PT w M tv t→PSx ((w.setCell ⟨(LB[R.fnd st.brs name]'hl).2.1,1,none⟩ (.int .i64 (head:Int))).setCell ⟨(LB[R.fnd st.brs name]'hl).2.1,2,none⟩ tv) M O B {st with brs:=st.brs.set (R.fnd st.brs name) {name:=name,head:=head,work:=t}} bv cv (LB.set (R.fnd st.brs name) ({name:=name,head:=head,work:=t},(LB[R.fnd st.brs name]'hl).2.1,tv)) LCm∧ze O w ((w.setCell ⟨(LB[R.fnd st.brs name]'hl).2.1,1,none⟩ (.int .i64 (head:Int))).setCell ⟨(LB[R.fnd st.brs name]'hl).2.1,2,none⟩ tv)):=by
   intro tv t a9;have hK:=cr w (LB[R.fnd st.brs name]'hl).2.1 (.int .i64 (head:Int)) tv;exact Qt hP hl (j0g _ _) hK (kq a7 name g2 head (a9.step hK (fun b e=>by subst e;exact hP.sub _ hO) (fun b e=> .inl e)))
  generalize(LB[R.fnd st.brs name]'hl).2.1=bb at*;generalize(LB[R.fnd st.brs name]'hl).2.2=t0 at*;clear hP hi b2 a5 b9 d8 hf g2 a7;generalize R.fnd st.brs name=k at*;go_enter DJ,DK;go_wp2_with fail
  refine c6.mono ?_;rintro e w1 ⟨rfl,g5⟩;subst g5;go_wp2_with fail
  refine c7.mono ?_;rintro e w2 ⟨ta,tc,rfl,a9,j8⟩;subst j8;obtain⟨e2,d7⟩:=HS.out _ _ a9;have f3:=z9 e2;have e8:=z9 d7;clear c7 c6 a9 e2 d7;go_wp2_with fail
  have c8:=yF (.slice (some ⟨w2.heap.size,0,none⟩) 1 1) [(head:Int)] (((w2.setCell ⟨bb,1,none⟩ (.int .i64 (head:Int))).setCell ⟨bb,2,none⟩ (.slice ta (R.treeOf st head).length tc)).alloc (.cells #[.int .i64 (head:Int)] 3)) (fun _=>False) (ym _ _ (by simp) #[.int .i64 (head:Int)] 3 (by simp)) (by simp);refine c8.mono ?_;rintro e w7 ⟨rfl,c9⟩;clear c8;generalize f6:((w2.setCell ⟨bb,1,none⟩ (.int .i64 (head:Int))).setCell ⟨bb,2,none⟩ (.slice ta (R.treeOf st head).length tc))=w6 at*;have a1:Below w6.heap.size w6 w7:=((j0g _ _).alloc (j0a _) _).trans (c9.mono (by simp));have b7:Below w6.heap.size w6 (w7.alloc (.cells #[.string ⟨([(head:Int)].map byteOf).toArray⟩,.string ⟨name.toArray⟩] 9)):=a1.alloc a1.size _;have e6:=K_ B 66 66 (by decide) (.slice (some ⟨w7.heap.size,0,none⟩) 2 2) [[(head:Int)].map byteOf,name] (f3.out.below b7) (fun _=>False) (ym w7 _ rfl #[.string ⟨([(head:Int)].map byteOf).toArray⟩,.string ⟨name.toArray⟩] 9 (by simp)) (by simp) (by
   intro i hi;simp only[iC,iI,or_false]at hi;rcases hi with rfl|rfl
   ·simp
   ·omega) i2
  have e7:=z9 b7;have f0:Hid ([[(head:Int)].map byteOf,name].flatten=mA head::name):=by
   show _=_;simp[Z_]
  clear c9 a1 b7 f6;simp only[aB,DB]at*;go_wp2_with fail
  refine e6.mono ?_;rintro e w9 ⟨rfl,e3⟩;have f4:=z9 e3;clear e3 e6;go_wp2;go_end0
  refine⟨rfl,?_⟩;have h9:=f4.out;rw[f0.out]at h9;rw[HR.out];obtain⟨O2,j6,j0,j4⟩:=h9;exact⟨O2,j6,(e8.out.trans ((ze.of_below e7.out).trans j0)),fun b e=>by
   rcases j4 b e with e|e
   ·exact .inl e
   ·exact .inr (j0f e8.out.size (j0f e7.out.size e))⟩
 ·have HR:Hid (xu st name head={st with brs:=(R.insB st.brs {name:=name,head:=0,work:=[]}).set (R.pos st.brs name) {name:=name,head:=head,work:=R.treeOf st head},packed:=st.packed++R.record 66 (mA head::name)}):=by
   show _=_;rw[xu,if_neg hf,R.headNew,cz]
  rw[decide_eq_false hf]at c6;have k5:LB.length≤6:=by have:=hi.many;omega
  have i7:=hP.fr 0;have HP:=z9 hP;clear hP hi hf a5 b9 d8;go_enter DJ,DK;go_wp2_with fail
  refine c6.mono ?_;rintro e w2 ⟨rfl,g5⟩;subst g5;clear c6;have i4:=HP.out.row;have f7:∀g,bv.ownBlock=some g→g<w2.heap.size∧g≠B:=fun g e=>⟨HP.out.lt g (HP.out.rowO g e).1,(HP.out.rowO g e).2⟩
  have i3:yC R.Br.name st.brs name≤LB.length:=by
   have:=CI R.Br.name st.brs name;have e:st.brs.length=LB.length:=by rw[←HP.out.brs,pA]
   omega
  have b6:=Gl insB bv LB.length (yC R.Br.name st.brs name) (w2.heap.size+1) 0 (xY LB) #[.pointer (some ⟨w2.heap.size,0,none⟩)] ((w2.alloc (Obj.cells #[.string ⟨name.toArray⟩,.int .i64 0,.slice none 0 0] 95)).alloc (Obj.cells #[.pointer (some ⟨w2.heap.size,0,none⟩)] 88)) ((i4.alloc _).alloc _) (sQ _) i3 (by omega) (by simpa using heap_alloc_new (w2.alloc (Obj.cells #[.string ⟨name.toArray⟩,.int .i64 0,.slice none 0 0] 95)) (Obj.cells #[.pointer (some ⟨w2.heap.size,0,none⟩)] 88)) rfl (fun e=>by have:=(f7 _ e).1;omega) (by
    intro u hu;obtain⟨q,_,rfl⟩:=pH.1 hu;rfl) (by intro u hu;simp at hu;subst hu;rfl)
  have e9:=z9 f7;have k3:=z9 d4;rw[d4]at b6;clear i4 f7;go_wp2_with fail
  refine b6.mono ?_;rintro e w3 ⟨v3,rfl,i1,b3,f8⟩;rw[←d4]at b3 f8;have k9:w2.heap.size+2≤w3.heap.size:=by have:=b3.size;simpa using this
  have f9:bv.ownBlock≠some B:=fun e=>(e9.out _ e).2 rfl
  have a8:∀k,k<w2.heap.size→bv.ownBlock≠some k→w3.heap[k]? =w2.heap[k]? :=fun k hk g1=>by
   rw[b3.block k (by simp;omega) (fun e=>g1 e.symm),heap_alloc_old _ _ (by simp;omega),heap_alloc_old _ _ hk]
  have d0:w3.cell? ⟨B,0,none⟩=some (.slice a LB.length cap):=(pU (a:=⟨B,0,none⟩) (a8 B g7 f9)).trans c0;have g0:w3.frozen? ⟨B,0,none⟩=false:=(DL (a:=⟨B,0,none⟩) (a8 B g7 f9)).trans i7;have d3:w3.heap[w2.heap.size]? =some (.cells #[.string ⟨name.toArray⟩,.int .i64 0,.slice none 0 0] 95 (0,0)):=by
   rw[b3.block _ (by simp;omega) (fun e=>by have:=(e9.out _ e.symm).1;omega),heap_alloc_old _ _ (by simp)];exact heap_alloc_new w2 _
  have HK:Hid (ze (fun b=>bv.ownBlock=some b) w2 w3):=⟨b3.os,b3.tape,b3.output,by omega,fun k hk g1=>a8 k hk g1⟩
  have a4:∀W (M0:Nat→Prop),PT W M0 (.slice none 0 0) []:=fun W M0=>⟨[],rfl,⟨none,0,rfl,by simp,by unfold maxLen;omega,fun h=>by simp at h⟩,by simp⟩
  have a7:kl w3 (fun _=>False) ({name:=name,head:=0,work:=[]},w2.heap.size,.slice none 0 0):=
   ⟨by simp only[pV,d3];rfl,by simp only[pV,d3];rfl,by simp only[pV,d3];rfl,fun o=>by simp[World.frozen?,d3],a4 _ _⟩
  have f5:∀g,v3.ownBlock=some g→bv.ownBlock=some g∨w2.heap.size+2≤g:=fun g e=>by
   rcases f8 g e with h|h
   ·exact .inl h
   ·exact .inr (by simpa using h)
  have g4:R.pos st.brs name=yC R.Br.name st.brs name:=rfl;obtain⟨O1,b1,g8,g9⟩:=cA (st' :={st with brs:=R.insB st.brs {name:=name,head:=0,work:=[]}}) HP.out HK.out ({name:=name,head:=0,work:=[]},w2.heap.size,.slice none 0 0) (by simpa[g4]using i1) (fun g e=>by
   rcases f5 g e with h|h
   ·exact .inl h
   ·exact .inr (by omega)) ⟨j0a _,by show w2.heap.size<_;omega,⟨a4 _ _,a7⟩,fun e=>by
   rcases f5 _ e with h|h
   ·have:=HP.out.lt _ (HP.out.rowO _ h).1
    simp only at this;omega
   ·simp only at h;omega⟩ rfl rfl rfl
  have e1:R.pos st.brs name≤LB.length:=i3;simp only at b1;have d9:(LB.take (R.pos st.brs name)++(({name:=name,head:=0,work:=[]},w2.heap.size,.slice none 0 0):BrP)::LB.drop (R.pos st.brs name))[R.pos st.brs name]? =some ({name:=name,head:=0,work:=[]},w2.heap.size,.slice none 0 0):=by
   rw[List.getElem?_append_right (by simp;omega)];simp[DI e1]
  obtain⟨d6,b8⟩:=List.getElem?_eq_some_iff.1 d9;have c7:=Ye b1 head hh d5;have h0:R.treeOf {st with brs:=R.insB st.brs {name:=name,head:=0,work:=[]}} head=R.treeOf st head:=rfl;rw[h0]at c7;clear h0;have a0:=b1.at_ _ (j0c d6);have hO:=(b1.blk _ (j0c d6)).1;have b5:=b1.row;have HS:Hid (∀(tv:Value) (t:List R.Leaf),PT (w3.setCell ⟨B,0,none⟩ v3) (fun b=>M b∨O1 b) tv t→PSx (((w3.setCell ⟨B,0,none⟩ v3).setCell ⟨w2.heap.size,1,none⟩ (.int .i64 (head:Int))).setCell ⟨w2.heap.size,2,none⟩ tv) (fun b=>M b∨O1 b) O1 B {st with brs:=(R.insB st.brs {name:=name,head:=0,work:=[]}).set (R.pos st.brs name) {name:=name,head:=head,work:=t}} v3 cv ((LB.take (R.pos st.brs name)++(({name:=name,head:=0,work:=[]},w2.heap.size,.slice none 0 0):BrP)::LB.drop (R.pos st.brs name)).set (R.pos st.brs name) ({name:=name,head:=head,work:=t},w2.heap.size,tv)) LCm∧ze O1 (w3.setCell ⟨B,0,none⟩ v3) (((w3.setCell ⟨B,0,none⟩ v3).setCell ⟨w2.heap.size,1,none⟩ (.int .i64 (head:Int))).setCell ⟨w2.heap.size,2,none⟩ tv)):=by
   intro tv t a9;have hK:=cr (w3.setCell ⟨B,0,none⟩ v3) w2.heap.size (.int .i64 (head:Int)) tv;rw[b8]at a0 hO;have:=Qt (nb:={name:=name,head:=head,work:=t}) (tv:=tv) b1 d6 (j0g _ _) (by rw[b8];exact hK) (by rw[b8];exact kq a0 name rfl head (a9.step hK (fun b e=>by subst e;exact b1.sub _ hO) (fun b e=> .inl e)));rw[b8]at this;exact this
  rw[b8]at a0;have k1:=a0.c1;have k2:=a0.c2;have f1:=a0.fr 1;have f2:=a0.fr 2;have i6:=z9 g8;have g6:=z9 g9;obtain⟨a3,c3,i5,j2,j1,b4,a6⟩:=zl b5;have i0:(LB.take (R.pos st.brs name)++(({name:=name,head:=0,work:=[]},w2.heap.size,.slice none 0 0):BrP)::LB.drop (R.pos st.brs name)).length=LB.length+1:=by
   simp only[mB,List.length_take,mC,List.length_drop];omega
  cases a3 with
  |none=>have:=(b4 rfl).1;omega
  |some ad=>
  obtain⟨g3,rfl,_,i9,_,a2⟩:=a6 ad rfl;have e0:=Qv a2 _ d6;rw[b8]at e0;rw[i0]at i5;unfold maxLen at j1;have j3 :LB.length+1≤c3:=by omega
  subst i5;have i8:B<w3.heap.size:=by omega
  have j7:((yC R.Br.name st.brs name:Nat):Int)<((LB.length:Nat):Int)+1:=by omega
  clear b3 f8 i1 b6 a8 d3 f9 e9 d4 b1 g8 g9 a7 a0 hO b5 d9 a2 a6 b4 f5 j2 b8 i0 d6 a4 e1;simp only[g4]at*;clear g4;generalize yC R.Br.name st.brs name=p at*;go_wp2_with fail
  refine c7.mono ?_;rintro e w5 ⟨ta,tc,rfl,a9,j9⟩;obtain⟨e2,d7⟩:=HS.out _ _ a9;have f3:=z9 e2;have e8:=z9 d7;clear c7 a9 e2 d7 HS;subst j9;go_wp2_with fail
  have c8:=yF (.slice (some ⟨w3.heap.size,0,none⟩) 1 1) [(head:Int)] ((((w3.setCell ⟨B,0,none⟩ (.slice (some ⟨g3,0,none⟩) (LB.length+1) c3)).setCell ⟨w2.heap.size,1,none⟩ (.int .i64 (head:Int))).setCell ⟨w2.heap.size,2,none⟩ (.slice ta (R.treeOf st head).length tc)).alloc (.cells #[.int .i64 (head:Int)] 3)) (fun _=>False) (ym _ _ (by simp) #[.int .i64 (head:Int)] 3 (by simp)) (by simp);refine c8.mono ?_;rintro e w7 ⟨rfl,c9⟩;clear c8;generalize f6:(((w3.setCell ⟨B,0,none⟩ (.slice (some ⟨g3,0,none⟩) (LB.length+1) c3)).setCell ⟨w2.heap.size,1,none⟩ (.int .i64 (head:Int))).setCell ⟨w2.heap.size,2,none⟩ (.slice ta (R.treeOf st head).length tc))=w6 at*;have a1:Below w6.heap.size w6 w7:=((j0g _ _).alloc (j0a _) _).trans (c9.mono (by simp));have b7:Below w6.heap.size w6 (w7.alloc (.cells #[.string ⟨([(head:Int)].map byteOf).toArray⟩,.string ⟨name.toArray⟩] 9)):=a1.alloc a1.size _;have e6:=K_ B 66 66 (by decide) (.slice (some ⟨w7.heap.size,0,none⟩) 2 2) [[(head:Int)].map byteOf,name] (f3.out.below b7) (fun _=>False) (ym w7 _ rfl #[.string ⟨([(head:Int)].map byteOf).toArray⟩,.string ⟨name.toArray⟩] 9 (by simp)) (by simp) (by
   intro i hi;simp only[iC,iI,or_false]at hi;rcases hi with rfl|rfl
   ·simp
   ·omega) i2
  have e7:=z9 b7;have f0:Hid ([[(head:Int)].map byteOf,name].flatten=mA head::name):=by
   show _=_;simp[Z_]
  clear c9 a1 b7 f6;simp only[aB,DB]at*;go_wp2_with fail
  refine e6.mono ?_;rintro e w9 ⟨rfl,e3⟩;have f4:=z9 e3;clear e3 e6;go_wp2;go_end0
  refine⟨rfl,?_⟩;have h9:=f4.out;rw[f0.out]at h9;rw[HR.out];exact zv.trans ((i6.out.then g6.out e8.out).trans (ze.of_below e7.out)) g6.out h9
def grown (st:R.St)(name:List UInt8)(head:Nat):Int×R.St:=
 if 0≤R.fndI st.brs name then(9,st)else if 6≤st.brs.length then(4,st)else(0,R.headNew st {name:=name,head:=head,work:=R.treeOf st head})
theorem ZI {w:World}{M O:Nat→Prop}{B:Nat}{st:R.St}{bv cv:Value}{LB:List BrP}{LCm:List (R.Cm×Value×Value)}(h:PSx w M O B st bv cv LB LCm)(s:List UInt8)(hf:R.fnd st.brs s<st.brs.length):
  ∃hl:R.fnd st.brs s<LB.length,Zp LB st s=some ⟨(LB[R.fnd st.brs s]'hl).2.1,0,none⟩∧(LB[R.fnd st.brs s]'hl).1=(st.brs[R.fnd st.brs s]'hf)∧R.headOf st s=(LB[R.fnd st.brs s]'hl).1.head∧R.workOf st s=(LB[R.fnd st.brs s]'hl).1.work:=by
 have hl:R.fnd st.brs s<LB.length:=by rw[←h.brs,pA]at hf;rw[←h.brs];exact hf
 have he:(LB[R.fnd st.brs s]'hl).1=(st.brs[R.fnd st.brs s]'hf):=by simp only[←h.brs,sA]
 refine⟨hl,?_,he,?_,?_⟩
 ·rw[Zp,if_pos hf,j0d hl];rfl
 ·rw[R.headOf,j0d hf,he];rfl
 ·rw[R.workOf,j0d hf,he];rfl
theorem G1 (B:Nat)(st:R.St)(name:List UInt8)(head:Nat)(w:World)(M O:Nat→Prop)(h:PS w M O B st)(hi:Inv st)(hh:head≤st.cms.length)(b2:name.length≤1000)(b3:st.packed.length≤1000000000000):
  Calls rJ 54 #[.pointer (some ⟨B,0,none⟩),.string ⟨name.toArray⟩,.int .i64 (head:Int)] w fun e w' =>e= .returned (.int .i64 (grown st name head).1)∧zv w w' M O B (grown st name head).2:=by
 have a1:=h;have a9:=GE B st name head w M O h hi hh b2 b3;obtain⟨bv,cv,LB,LCm,hP⟩:=h;have a2:=Qa hP hi name;by_cases hf:R.fnd st.brs name<st.brs.length
 ·have HR:Hid (grown st name head=(9,st)):=by show _=_;rw[grown,if_pos (by rw[R.fndI,if_pos hf];omega)]
  obtain⟨hl,ha,hx⟩:=ZI hP name hf;clear hx;rw[ha]at a2;generalize(LB[R.fnd st.brs name]'hl).2.1=bb at*;have a7:=z9 a1;clear hP hi hf a1 a9 ha;go_enter DM,DN;go_wp2_with fail
  refine a2.mono ?_;rintro e w1 ⟨rfl,a5⟩;subst a5;go_wp2;go_ret;exact⟨YJ (by rw[HR.out]),by rw[HR.out];exact zv.same a7.out (j0g _ _)⟩
 have a6:¬0≤R.fndI st.brs name:=by rw[R.fndI,if_neg hf];omega
 have ha:Zp LB st name=none:=by rw[Zp,if_neg hf]
 rw[ha]at a2;have a3:st.brs.length=LB.length:=by rw[←hP.brs,pA]
 obtain⟨a,cap,a8,hn,hm,a4,a0⟩:=zl hP.row;have c0:=hP.c0;rw[a8]at c0;unfold maxLen at hm;by_cases h6:6≤st.brs.length
 ·have HR:Hid (grown st name head=(4,st)):=by show _=_;rw[grown,if_neg a6,if_pos h6]
  have a7:=z9 a1;have b1 :6≤LB.length:=by omega
  clear hP hi hf a1 a0 a4 a3 h6 a6 a9 ha a8;go_enter DM,DN;go_wp2_with fail
  refine a2.mono ?_;rintro e w1 ⟨rfl,a5⟩;subst a5;go_wp2;go_ret;exact⟨YJ (by rw[HR.out]),by rw[HR.out];exact zv.same a7.out (j0g _ _)⟩
 have HR:Hid (grown st name head=(0,xu st name head)):=by show _=_;rw[grown,if_neg a6,if_neg h6,xu,if_neg hf]
 have b1 :¬6≤LB.length:=by omega
 clear hP hi hf a1 a0 a4 a3 h6 a6 ha a8;go_enter DM,DN;go_wp2_with fail
 refine a2.mono ?_;rintro e w1 ⟨rfl,a5⟩;subst a5;go_wp2_with fail
 refine a9.mono ?_;rintro e w2 ⟨rfl,b4⟩;go_wp2;go_ret;exact⟨YJ (by rw[HR.out]),by rw[HR.out];exact b4⟩
theorem oY (st:R.St)(name fr:List UInt8):R.made st name fr false=if R.isName name=false then(1,st)else grown st name 0:=by
 unfold R.made grown;simp
theorem fw (st:R.St)(name fr:List UInt8):R.made st name fr true=if R.isName name=false then(1,st)else if R.fndI st.brs fr<0 then(5,st)else grown st name (R.headOf st fr):=by
 unfold R.made grown;simp
theorem kS (s:List UInt8)(w:World)(hs:s.length≤maxLen):
  Calls rJ 53 #[.string ⟨s.toArray⟩] w fun e w' =>e= .returned (.bool (R.isName s))∧w' =w:=by
 have h:=Oj ⟨s.toArray⟩ w (by simpa[aF]using hs);simpa using h
theorem cN (B:Nat)(st:R.St)(name:List UInt8)(w:World)(M O:Nat→Prop)(h:PS w M O B st)(hi:Inv st)(a3:name.length≤maxLen)(a4:st.packed.length≤1000000000000):
  Calls rJ 26 #[.pointer (some ⟨B,0,none⟩),.string ⟨name.toArray⟩] w fun e w' =>e= .returned (.int .i64 (R.made st name [] false).1)∧zv w w' M O B (R.made st name [] false).2:=by
 have hn:=kS name w a3;have hg:=fun a2=>G1 B st name 0 w M O h hi (sQ _) a2 a4
 rw[oY]
 cases hb:R.isName name
 ·rw[hb]at hn
  simp only[if_true];have a1:=z9 h;clear h hi hb hg;go_enter DO,DP;go_wp2_with fail
  refine hn.mono ?_;rintro e w1 ⟨rfl,a0⟩;subst a0;go_wp2;go_ret;exact⟨rfl,zv.same a1.out (j0g _ _)⟩
 ·replace hg:=hg (by have:=ZK name hb;omega)
  rw[hb]at hn;simp only[DQ,if_false];clear h hi hb;go_enter DO,DP;go_wp2_with fail
  refine hn.mono ?_;rintro e w1 ⟨rfl,a0⟩;subst a0;go_wp2_with fail
  refine hg.mono ?_;rintro e w2 ⟨rfl,a5⟩;go_wp2;go_ret;exact⟨rfl,a5⟩
theorem Bq (B:Nat)(st:R.St)(name fr:List UInt8)(w:World)(M O:Nat→Prop)(h:PS w M O B st)(hi:Inv st)(a6:name.length≤maxLen)(a7:st.packed.length≤1000000000000):
  Calls rJ 29 #[.pointer (some ⟨B,0,none⟩),.string ⟨name.toArray⟩,.string ⟨fr.toArray⟩] w fun e w' =>e= .returned (.int .i64 (R.made st name fr true).1)∧zv w w' M O B (R.made st name fr true).2:=by
 have hn:=kS name w a6;have a1:=h;obtain⟨bv,cv,LB,LCm,hP⟩:=h;have a2:=Qa hP hi fr;rw[fw]
 cases hb:R.isName name
 ·rw[hb]at hn
  simp only[if_true];have a4:=z9 a1;clear a1 hi hb hP a2;go_enter DR,DS;go_wp2_with fail
  refine hn.mono ?_;rintro e w1 ⟨rfl,a0⟩;subst a0;go_wp2;go_ret;exact⟨rfl,zv.same a4.out (j0g _ _)⟩
 rw[hb]at hn;simp only[DQ,if_false];by_cases hf:R.fnd st.brs fr<st.brs.length
 ·have a3:¬R.fndI st.brs fr<0:=by rw[R.fndI,if_pos hf];omega
  rw[if_neg a3];obtain⟨hl,ha,he,hh,_⟩:=ZI hP fr hf;have a5:R.headOf st fr≤st.cms.length:=by rw[hh,he];exact hi.heads _ (j0c hf)
  have hg:=G1 B st name (R.headOf st fr) w M O a1 hi a5 (by have:=ZK name hb;omega) a7;have e1:=(hP.at_ _ (j0c hl)).c1;rw[ha]at a2;rw[←hh]at e1;generalize(LB[R.fnd st.brs fr]'hl).2.1=bb at*;clear a1 hi hb hP a3 hf he ha hh a5;generalize R.headOf st fr=hd at*;go_enter DR,DS;go_wp2_with fail
  refine hn.mono ?_;rintro e w1 ⟨rfl,a0⟩;subst a0;go_wp2_with fail
  refine a2.mono ?_;rintro e w1 ⟨rfl,a0⟩;subst a0;go_wp2_with fail
  refine hg.mono ?_;rintro e w2 ⟨rfl,a8⟩;go_wp2;go_ret;exact⟨rfl,a8⟩
 ·have a3:R.fndI st.brs fr<0:=by rw[R.fndI,if_neg hf];omega
  rw[if_pos a3];have ha:Zp LB st fr=none:=by rw[Zp,if_neg hf]
  rw[ha]at a2;have a4:=z9 a1;clear a1 hi hb hP a3 hf ha;go_enter DR,DS;go_wp2_with fail
  refine hn.mono ?_;rintro e w1 ⟨rfl,a0⟩;subst a0;go_wp2_with fail
  refine a2.mono ?_;rintro e w1 ⟨rfl,a0⟩;subst a0;go_wp2;go_ret;exact⟨rfl,zv.same a4.out (j0g _ _)⟩
theorem Bu (B:Nat)(st:R.St)(name:List UInt8)(w:World)(M O:Nat→Prop)(h:PS w M O B st)(hi:Inv st)(d9:st.packed.length≤1000000000000):
  Calls rJ 37 #[.pointer (some ⟨B,0,none⟩),.string ⟨name.toArray⟩] w fun e w' =>e= .returned (.int .i64 (R.dropped st name).1)∧zv w w' M O B (R.dropped st name).2:=by
 have a7:=h;obtain⟨bv,cv,LB,LCm,hP⟩:=h;have a4:=kb hP hi name;rw[QE]at a4;by_cases hf:R.fnd st.brs name<st.brs.length
 ·have a2:¬R.fndI st.brs name<0:=by rw[R.fndI,if_pos hf];omega
  have HR:Hid (R.dropped st name=(0,{st with brs:=st.brs.take (R.fnd st.brs name)++st.brs.drop (R.fnd st.brs name+1),packed:=st.packed++R.record 68 name})):=by show _=_;rw[R.dropped,if_neg a2]
  rw[decide_eq_true hf,←j5 hi.sort name hf]at a4;have b1:st.brs.length=LB.length:=by rw[←hP.brs,pA]
  have b8:R.fnd st.brs name<LB.length:=by omega
  obtain⟨a,cap,a6,hn,hm,b2,a5⟩:=zl hP.row;have c0:=hP.c0;have d6:=hP.fr 0;have d7:=hP.lt B hP.own;have hD:=FJ dB bv LB.length (R.fnd st.brs name) 0 (xY LB) w hP.row b8 (by
   intro u hu;obtain⟨q,_,rfl⟩:=pH.1 hu;rfl)
  have HP:=z9 hP;have e2:=z9 a6;rw[a6]at hD c0;unfold maxLen at hm;have e3:LB.length≤6:=by have:=hi.many;omega
  have e6:name.length≤8:=by
   have h1:=hi.names _ (j0c hf);rw[R.fnd_name _ _ hf]at h1;exact ZK _ h1
  clear a7 hi hP a2 hf a5 b2 b1;generalize R.fnd st.brs name=k at*;go_enter DT,DU;go_wp2_with fail
  refine a4.mono ?_;rintro e w1 ⟨rfl,b4⟩;subst b4;go_wp2_with fail
  refine hD.mono ?_;rintro e w3 ⟨v3,rfl,b3,a0,a9⟩;rw[←a6]at a0 a9;have b9:bv.ownBlock≠some B:=fun e=>(HP.out.rowO _ e).2 rfl
  have a1:w3.heap[B]? =w1.heap[B]? :=a0.block B d7 (fun e=>b9 e.symm);have d0:=(pU (a:=⟨B,0,none⟩) a1).trans c0;have g0:=(DL (a:=⟨B,0,none⟩) a1).trans d6;have HK:Hid (ze (fun b=>bv.ownBlock=some b) w1 w3):=⟨a0.os,a0.tape,a0.output,a0.size,fun k hk d8=>a0.block k hk (fun e=>d8 e.symm)⟩
  obtain⟨O1,b7,b5,b6⟩:=c_ (st' :={st with brs:=st.brs.take k++st.brs.drop (k+1)}) HP.out HK.out b8 (by simpa using b3) a9 rfl rfl rfl;obtain⟨a3,c3,e1,_⟩:=zl b3;subst e1;have a8:Below (w3.setCell ⟨B,0,none⟩ (.slice a3 (LB.length-1) c3)).heap.size (w3.setCell ⟨B,0,none⟩ (.slice a3 (LB.length-1) c3)) ((w3.setCell ⟨B,0,none⟩ (.slice a3 (LB.length-1) c3)).alloc (.cells #[.string ⟨name.toArray⟩] 9)):=(j0g _ _).alloc (j0a _) _;have c7:=K_ B 68 68 (by decide) (.slice (some ⟨w3.heap.size,0,none⟩) 1 1) [name] (b7.below a8) (fun _=>False) (ym _ _ (by simp) #[.string ⟨name.toArray⟩] 9 (by simp)) (by simp) (by
   intro i hi;simp only[iC,iI,or_false]at hi;subst hi;omega) d9
  have c9:=z9 b5;have d3:=z9 b6;have c8:=z9 a8;clear a0 a9 b3 hD a1 a6 b9 b7 b5 b6 a8;go_wp2_with fail
  refine c7.mono ?_;rintro e w9 ⟨rfl,c6⟩;have d5:=z9 c6;clear c6 c7;go_wp2;go_ret;refine⟨YJ (by rw[HR.out]),?_⟩;rw[HR.out];have h9:=d5.out;simp only[D8,List.flatten_nil,List.append_nil]at h9;exact zv.trans (c9.out.trans (ze.of_below c8.out)) d3.out h9
 ·have a2:R.fndI st.brs name<0:=by rw[R.fndI,if_neg hf];omega
  have HR:Hid (R.dropped st name=(5,st)):=by show _=_;rw[R.dropped,if_pos a2]
  rw[decide_eq_false hf]at a4;have d4:=z9 a7;clear a7 hi hP a2 hf;go_enter DT,DU;go_wp2_with fail
  refine a4.mono ?_;rintro e w1 ⟨rfl,b4⟩;subst b4;go_wp2;go_ret;exact⟨YJ (by rw[HR.out]),by rw[HR.out];exact zv.same d4.out (j0g _ _)⟩
theorem Vh {α:Type}(l m:List α)(k:Nat)(h1:k<l.length)(h2:k<m.length)(h:l.take k=m.take k)(e:l[k]=m[k]):l.take (k+1)=m.take (k+1):=by
 rw[mD h1,mD h2,h,e]
theorem cF (v u:Value)(l m:List (List UInt8))(w:World)(M:Nat→Prop)(h:Rd w M v l.length (l.map S))(h' :Rd w M u m.length (m.map S)):
  Calls rJ 181 #[v,u] w fun e w' =>e= .returned (.bool (decide (l=m)))∧Below w.heap.size w w' :=by
 obtain⟨a,c,rfl,hn,hm,hc⟩:=h;obtain⟨a',c',rfl,b9,b8,b3⟩:=h';unfold maxLen at hm b8;have HC:=z6 hc;have b5 :=z6 b3;clear hc b3;by_cases hl:l.length=m.length
 ·have b0:((l.length:Int) !=(m.length:Int))=false:=by simp[hl]
  have HL:=z6 hl;have a4:(l.length:Int)=(m.length:Int):=by omega
  clear hl;obtain⟨n,a2⟩:∃n,n=m.length:=⟨_,rfl⟩
  have a5:l.length=n:=by rw[a2];exact HL.out
  rw[←a2]at b9 b0 a4⊢;rw[a5]at hn b0 a4⊢;have a8:=z6 a2;have a7:=z6 a5;clear a2 a5 b0 a4;go_enter DV,DW;go_wp2;go_loopw [13] (fun i wr=>∃k q:Nat,k≤n∧i= .int .i64 k∧l.take k=m.take k∧wr=w.drewN q) (fun i _=>n-(intOf i).toNat)
  case atStart=>exact⟨0,0,sQ _,rfl,by simp,rfl⟩
  case round=>
   obtain⟨k,q,hk,rfl,b4,rfl⟩:=hrel;have a9:=z6 b4;clear b4;by_cases c6:k<n
   ·have a0:k<l.length:=by have:=a7.out;omega
    have a1:k<m.length:=by have:=a8.out;omega
    obtain⟨b,off,rfl,_,_,h1⟩:=HC.out (by omega);obtain⟨b',a6,rfl,_,_,h2⟩:=b5.out (by omega);have d1:w.cell? ⟨b,off+k,none⟩=some (.string ⟨(l[k]'a0).toArray⟩):=h1 k _ (by simp[a0,S]);have d2:w.cell? ⟨b',a6 +k,none⟩=some (.string ⟨(m[k]'a1).toArray⟩):=h2 k _ (by simp[a1,S]);clear h1 h2;by_cases he:l[k]'a0=m[k]'a1
    ·have b7:=z6 (Vh l m k a0 a1 a9.out he)
     have b1:((l[k]'a0)==(m[k]'a1))=true:=by simpa using he
     have b2:((l[k]'a0) !=(m[k]'a1))=false:=by simpa using he
     clear he;generalize l[k]'a0=x at*;generalize m[k]'a1=y at*;go_wp2;go_quiet (fail)
     go_wp2;go_roundw
     case rel=>exact⟨k+1,_,by omega,by go_num,b7.out,by first|rfl|exact World.drewN_drewN _ _ _⟩
     case measure=>simp[intOf];omega
    ·have a3:Hid (decide (l=m)=false):=by
      refine decide_eq_false fun e=>he ?_
      subst e;rfl
     have b1:((l[k]'a0)==(m[k]'a1))=false:=by simpa using he
     have b2:((l[k]'a0) !=(m[k]'a1))=true:=by simpa using he
     clear he;generalize l[k]'a0=x at*;generalize m[k]'a1=y at*;go_wp2;go_quiet (fail)
     go_wp2;go_ret;rw[a3.out];exact⟨rfl,below_drewN (below_drewN (j0g _ _) _) _⟩
   ·obtain rfl:k=n:=by omega
    have b6:Hid (decide (l=m)=true):=by
     refine decide_eq_true ?_;have:=a9.out;rwa[mG (by have:=a7.out;omega),mG (by have:=a8.out;omega)]at this
    go_wp2;go_ret;rw[b6.out];exact⟨rfl,below_drewN (j0g _ _) _⟩
 ·have b0:((l.length:Int) !=(m.length:Int))=true:=by simp;omega
  have b1:((l.length:Int)==(m.length:Int))=false:=by simp;omega
  have a3:Hid (decide (l=m)=false):=decide_eq_false fun e=>hl (by rw[e])
  clear hl;go_enter DV,DW;go_wp2;go_ret;rw[a3.out];exact⟨rfl,j0g _ _⟩
