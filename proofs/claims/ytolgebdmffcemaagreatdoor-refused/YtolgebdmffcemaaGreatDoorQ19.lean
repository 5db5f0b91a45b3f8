import Derived.Test.YtolgebdmffcemaaGreatDoorQ18
set_option linter.all false
set_option maxHeartbeats 20000000
set_option maxRecDepth 1000000
namespace Go.Proofs.YtolgebdmffcemaaGreatDoor
open Go Go.Conc Go.RowKit
structure TC (Old:Blk)(B g cap K:Nat)(ps:Nat→List Nat)(w:World):Prop where
 oB:Old B
 og:Old g
 c1:w.cell? ⟨B,1,none⟩=some (.slice (some ⟨g,0,none⟩) K cap)
 par:∀m,m<K→∃pa pc,w.cell? ⟨g,m*2,none⟩=some (.slice pa (ps (m+1)).length pc)∧∀j,j<(ps (m+1)).length→∃b off,pa=some ⟨b,off,none⟩∧Old b∧w.cell? ⟨b,off+j,none⟩=some (.int .i64 ((ps (m+1)).getD j 0:Nat))
theorem TC.keep {Old A:Blk}{B g cap K:Nat}{ps:Nat→List Nat}{w0 w:World}(h:TC Old B g cap K ps w0)(k:KO Old A w0 w):TC Old B g cap K ps w:=by
 refine⟨h.oB,h.og,by rw[k.cell (p:=⟨B,1,none⟩) h.oB];exact h.c1,fun m hm=> ?_⟩;obtain⟨pa,pc,h1,h2⟩:=h.par m hm;refine⟨pa,pc,by rw[k.cell (p:=⟨g,m*2,none⟩) h.og];exact h1,fun j hj=> ?_⟩;obtain⟨b,off,e,hb,hc⟩:=h2 j hj;exact⟨b,off,e,hb,by rw[k.cell (p:=⟨b,off+j,none⟩) hb];exact hc⟩
theorem uD {Old A:Blk}{b:Nat}(h:Old b)(j:Nat):EvO Old A ⟨.cell ⟨b,j,none⟩,false,false⟩:= .inl ⟨⟨b,j,none⟩,rfl,.inr ⟨rfl,h⟩⟩
theorem Jr (ps:Nat→List Nat):∀K,hist ps K [0]=[]
 |0=>rfl
 |K+1=>by simp only[hist];rw[if_neg (by simp),Jr ps K]
theorem Cx {main:Bool}{Old A:Blk}(nb n:Nat)(v:Value)(x:Nat→Int)(h0:0<n)(hn:n≤1000)(w:World)(hF:HR A nb v n x w):
  yu Tryz.prog main Old 156 #[.pointer (some ⟨nb,0,none⟩)] A w fun A' r w' =>A' =A∧r= .int .i64 (x 0)∧∃v',HR A nb v' (n-1) (Q_ n x) w' :=by
 obtain⟨k,rfl⟩:∃k,n=k+1:=⟨n-1,by omega⟩
 obtain⟨g,cap,rfl,a0,hH⟩:=f7 hF.var hF.row;have hM:uP A (fun b=>b=nb) g:=⟨(hF.own g rfl).1,fun b hb=>by subst hb;exact⟨hF.mine,fun e=>(hF.own g rfl).2 e.symm⟩⟩
 have a1:k+1≤cap:=by obtain⟨cs,_,h,_⟩:=hH.ex;exact h.2
 refine(CX (main:=main) (Old:=Old) nb g (k+1) cap hM x h0 hn a1 (by unfold maxLen at a0;omega) w hH).mono fun A' r w' ⟨h1,h2,h3⟩=>⟨h1,h2,_,OS hM a0 h3⟩
section
variable {Old A:Blk}{B g cap K c h nb:Nat}{ps:Nat→List Nat}{w0 w:World}
theorem HR.form {n:Nat}{v:Value}{x:Nat→Int}(h:HR A nb v n x w):∃va vc,v= .slice va n vc:=by
 rcases h.row.2 with⟨rfl,rfl⟩|⟨g,cap,a0,rfl,_⟩
 all_goals
  exact⟨_,_,rfl⟩
theorem KC {P:Program}{main:Bool}{St:List Value→Blk→Goroutine→World→Prop}{fn:FuncId}{c:Code}{Q:Exit→List Value→Blk→Act→World→Prop}{vs:List Value}{a:Act}(h:wpO P main Old fn c (fun e A a w=>Q e vs A a w) A a w):wpS P main Old St fn c Q vs A a w:=XX h fun _ _ _ _ q=>q
theorem GS (hT:0<K→TC Old B g cap K ps w0)(f8:KO Old Zp w0 w0)(hh:h≤K)(hK:K≤60)(g2:∀m,1≤m→m≤K→∀p∈ps m,1≤p∧p<m)(e8:∀m,1≤m→m≤K→(ps m).length≤2):
  Snd Tryz.prog Old c ((hist ps K [h]).map (fun n:Nat=>Value.int .i64 (n:Int))) Zp (born Tryz.prog (dcall 108 #[.pointer (some ⟨B,0,none⟩),.int .i64 (h:Int),.chan (some c)])) w0:=by
 refine GT Tryz.func108 (by rfl) rfl (by rfl) (by rfl) ?_;simp only[Tryz.ntmps108,List.size_toArray,List.length_cons,List.length_nil,Nat.reduceAdd,Nat.reduceSub,Array.replicate_succ,Array.replicate_zero,List.push_toArray,List.append_toArray,List.nil_append,List.cons_append];refine wpS_seq ?_;refine KB ?_;simp only[List.size_toArray,List.length_cons,List.length_nil,Nat.reduceAdd,Nat.zero_add,List.range,List.range.loop];co_applyP KV rfl (by rfl)
 case hv=>intro W K hK;go_simp;exact hK
 case he=>intro W;simp[go_sem, *]
 try walk_nrm
 refine Oj rfl (by rfl) rfl (by rfl) ?_;intro ty bs;try walk_nrm
 obtain⟨D,HD⟩:∃D,Hid (D=Xl #[201] ty bs c):=⟨_,rfl⟩
 rw[←HD.out];refine Uy ?_;simp only[yB];have hO:=f8;refine uY (fun A' a' w' =>∃nb,HR A' nb (.slice none 0 0) 0 (fun _=>0) w' ∧KO Old A' w0 w' ∧a' =⟨#[.pointer (some ⟨B,0,none⟩),.int .i64 (h:Int),.chan (some c),undef,undef,undef,.pointer (some ⟨nb,0,none⟩),undef,undef,undef,undef,.chan (some c),undef,undef,undef,undef,undef,undef,undef,undef,undef,undef,undef,undef,undef,undef,undef,undef,undef,undef,undef,undef,undef,undef,undef,undef,undef,undef,undef,undef,undef,undef,undef],[D]⟩) ?_ ?_
 ·refine zk ?_
  simp only[List.size_toArray,List.length_cons,List.length_nil,Nat.reduceAdd,Nat.zero_add,List.range,List.range.loop];refine zG rfl (by rfl) ?_;intro w1 hR K9 hK;replace hO:=KO.rely hO hR;clear hR;go_simp
  have hg:=xN (Old:=Old) (A:=Zp) w1 (.cells #[.slice none 0 0] 202 (0,0)) (es:= #[]) (by simp);replace hO:=hO.guar hg;refine hK _ _ (fun b=>Zp b∨b=w1.heap.size) (xN w1 _ (by co_evs (skip))) ?_;clear hK K9;try walk_nrm
  refine zm ?_;simp only[yB,zI,Z_,Zw];refine⟨w1.heap.size,⟨heap_alloc_new w1 _,⟨by simp,.inl ⟨rfl,rfl⟩⟩,fun g hg=>by simp[Value.ownBlock]at hg,.inr rfl⟩,hO,rfl⟩
 ·rintro A a w ⟨nb,hF,hO,rfl⟩
  refine uY (fun A' a' w' =>∃(v:Value) (n:Nat) (x:Nat→Int) (t3 t4 t5 t7 t8 t9 a0 a1 a2 a3 a4 a5 a6 a7 a8 a9 b1 b2 b3 b4 b5 b6 b7 b8 b9 c6 c7 c8 c9 d3 e1 e2 e3 d4 d5 d6 d7 d8 d9:Value),HR A' nb v n x w' ∧KO Old A' w0 w' ∧SI ps K n x 0 (hist ps K [h])∧n≤1∧a' =⟨#[.pointer (some ⟨B,0,none⟩),.int .i64 (h:Int),.chan (some c),t3,t4,t5,.pointer (some ⟨nb,0,none⟩),t7,t8,t9,a0,a1,a2,a3,a4,a5,a6,a7,a8,a9,b1,b2,b3,b4,b5,b6,b7,b8,b9,c6,c7,c8,c9,d3,e1,e2,e3,d4,d5,d6,d7,d8,d9],[D]⟩) ?_ ?_
  ·refine wpO_seq ?_
   refine zk ?_;simp only[List.size_toArray,List.length_cons,List.length_nil,Nat.reduceAdd,Nat.zero_add,List.range,List.range.loop];co_applyP z8 rfl (by rfl)
   case hv=>intro W K hK;go_simp;exact hK
   case he=>intro W;simp[go_sem, *]
   try walk_nrm
   co_applyP z8 rfl (by rfl)
   case hv=>intro W K hK;go_simp;exact hK
   case he=>intro W;simp[go_sem, *]
   try walk_nrm
   refine zm ?_;simp only[yB,zI,Z_,Zw];by_cases h0:h=0
   ·subst h0
    refine Zk (t:=false) (by simp[Act.eval]) ?_;simp only[Bool.false_eq_true,if_false];refine y9 ?_;simp only[zI];exact⟨_,0,_,_,_,_,_,_,_,_,_,_,_,_,_,_,_,_,_,_,_,_,_,_,_,_,_,_,_,_,_,_,_,_,_,_,_,_,_,_,_,_,hF,hO,by rw[Jr];exact SI.none,by omega,rfl⟩
   ·refine Zk (t:=true) (by simp[Act.eval];omega) ?_
    simp only[if_true];refine zk ?_;simp only[List.size_toArray,List.length_cons,List.length_nil,Nat.reduceAdd,Nat.zero_add,List.range,List.range.loop];co_applyP z8 rfl (by rfl)
    case hv=>intro W K hK;go_simp;exact hK
    case he=>intro W;simp[go_sem, *]
    try walk_nrm
    refine xC rfl (by rfl) rfl (by simp[Act.eval]) (Qc (F7 (main:=false) (Old:=Old) nb 0 (.slice none 0 0) (fun _=>0) (h:Int) (by omega) _ hF) hO) ?_;clear hF hO;rintro A2 r w2 ⟨⟨f7,rfl,v2,hF⟩,hO⟩;try walk_nrm
    refine zm ?_;simp only[zI];exact⟨_,_,_,_,_,_,_,_,_,_,_,_,_,_,_,_,_,_,_,_,_,_,_,_,_,_,_,_,_,_,_,_,_,_,_,_,_,_,_,_,_,_,hF,hO,SI.one (by omega) hh,by omega,rfl⟩
  ·rintro A a w ⟨v,n,x,t3,t4,t5,t7,t8,t9,a0,a1,a2,a3,a4,a5,a6,a7,a8,a9,b1,b2,b3,b4,b5,b6,b7,b8,b9,c6,c7,c8,c9,d3,e1,e2,e3,d4,d5,d6,d7,d8,d9,hF,hO,hS,hn,rfl⟩
   refine wpS_seq ?_;refine KC (zk ?_);simp only[List.size_toArray,List.length_cons,List.length_nil,Nat.reduceAdd,Nat.zero_add,List.range,List.range.loop];co_applyP z8 rfl (by rfl)
   case hv=>intro W K hK;go_simp;exact hK
   case he=>intro W;simp[go_sem, *]
   try walk_nrm
   refine zm ?_;simp only[yB,zI,Z_,Zw];refine J1 ?_;refine GK (n:=3*(hist ps K [h]).length+n) (fun N vs A a w=>∃(l:List Nat) (v:Value) (n:Nat) (x:Nat→Int) (last:Int) (t3 t4 t5 t8 t9 a0 a1 a2 a3 a4 a5 a6 a7 a8 a9 b1 b2 b3 b4 b5 b6 b7 b8 b9 c6 c7 c8 c9 d3 e1 e2 e3 d4 d5 d6 d7 d8 d9:Value),vs=l.map (fun n:Nat=>Value.int .i64 (n:Int))∧HR A nb v n x w∧KO Old A w0 w∧SI ps K n x last l∧n+2*l.length≤125∧N=3*l.length+n∧a=⟨#[.pointer (some ⟨B,0,none⟩),.int .i64 (h:Int),.chan (some c),t3,t4,t5,.pointer (some ⟨nb,0,none⟩),.int .i64 last,t8,t9,a0,a1,a2,a3,a4,a5,a6,a7,a8,a9,b1,b2,b3,b4,b5,b6,b7,b8,b9,c6,c7,c8,c9,d3,e1,e2,e3,d4,d5,d6,d7,d8,d9],[D]⟩) ⟨hist ps K [h],v,n,x,0,_,_,_,_,_,_,_,_,_,_,_,_,_,_,_,_,_,_,_,_,_,_,_,_,_,_,_,_,_,_,_,_,_,_,_,_,_,_,rfl,hF,hO,hS,by have:=Vu ps K [h];omega,rfl,rfl⟩ ?_;clear hF hO hS hn x n v;rintro N vs A a w ⟨l,v,n,x,last,t3,t4,t5,t8,t9,a0,a1,a2,a3,a4,a5,a6,a7,a8,a9,b1,b2,b3,b4,b5,b6,b7,b8,b9,c6,c7,c8,c9,d3,e1,e2,e3,d4,d5,d6,d7,d8,d9,rfl,hF,hO,hS,hn,rfl,rfl⟩;obtain⟨va,vc,rfl⟩:=hF.form;refine wpS_seq ?_;refine wpS_seq ?_;refine KC (zk ?_);simp only[List.size_toArray,List.length_cons,List.length_nil,Nat.reduceAdd,Nat.zero_add,List.range,List.range.loop];refine zG rfl (by rfl) ?_;intro w9 hR K9 hK;replace hF:=HR.rely (Old:=Old) hF hR;replace hO:=KO.rely hO hR;clear hR;have hc:=hF.cellv;go_simp
   refine hK _ _ A ?_ ?_
   ·exact zC _ (by co_evs (exact zU hF.mine _ _))
   clear hK K9;try walk_nrm
   clear hc;co_applyP z8 rfl (by rfl)
   case hv=>intro W K hK;go_simp;exact hK
   case he=>intro W;simp[go_sem, *]
   try walk_nrm
   co_applyP z8 rfl (by rfl)
   case hv=>intro W K hK;go_simp;exact hK
   case he=>intro W;simp[go_sem, *]
   try walk_nrm
   refine zm ?_;simp only[yB,zI,Z_,Zw];by_cases h0:0<n
   case neg=>
    obtain rfl:n=0:=by omega
    refine vJ (t:=false) (by simp[Act.eval]) ?_;simp only[Bool.false_eq_true,if_false];refine uZ ?_;simp only[yB,Z_,if_true];refine⟨.inl (by first|rfl|trivial),?_,_,_,_,congrArg (·:: []) HD.out⟩;rw[hS.done];rfl
   refine vJ (t:=true) (by simp[Act.eval];omega) ?_;simp only[if_true];refine uX ?_;simp only[yB];refine J1 ?_;refine wpS_seq ?_;refine KC (zk ?_);simp only[List.size_toArray,List.length_cons,List.length_nil,Nat.reduceAdd,Nat.zero_add,List.range,List.range.loop];refine xC rfl (by rfl) rfl (by simp[Act.eval]) (Qc (Cx (main:=false) (Old:=Old) nb n _ x h0 (by omega) _ hF) hO) ?_;clear hF hO;rintro A2 r w2 ⟨⟨rfl,rfl,v2,hF⟩,hO⟩;try walk_nrm
   co_applyP z8 rfl (by rfl)
   case hv=>intro W K hK;go_simp;exact hK
   case he=>intro W;simp[go_sem, *]
   try walk_nrm
   refine zm ?_;simp only[yB,zI,Z_,Zw];refine wpS_seq ?_;refine wpS_seq ?_;refine KC (zk ?_);simp only[List.size_toArray,List.length_cons,List.length_nil,Nat.reduceAdd,Nat.zero_add,List.range,List.range.loop];co_applyP z8 rfl (by rfl)
   case hv=>intro W K hK;go_simp;exact hK
   case he=>intro W;simp[go_sem, *]
   try walk_nrm
   co_applyP z8 rfl (by rfl)
   case hv=>intro W K hK;go_simp;exact hK
   case he=>intro W;simp[go_sem, *]
   try walk_nrm
   co_applyP z8 rfl (by rfl)
   case hv=>intro W K hK;go_simp;exact hK
   case he=>intro W;simp[go_sem, *]
   try walk_nrm
   refine zm ?_;simp only[yB,zI,Z_,Zw];by_cases he:x 0=last
   case pos=>
    refine vJ (t:=true) (by simp[Act.eval,he]) ?_;simp only[if_true];refine uZ ?_;simp only[yB,Z_,if_true];exact⟨3*l.length+(n-1),by omega,l,v2,n-1,_,last,_,_,_,_,_,_,_,_,_,_,_,_,_,_,_,_,_,_,_,_,_,_,_,_,_,_,_,_,_,_,_,_,_,_,_,_,_,_,rfl,hF,hO,hS.skip h0 he,by omega,rfl,rfl⟩
   refine vJ (t:=false) (by simp[Act.eval,he]) ?_;simp only[Bool.false_eq_true,if_false];refine uX ?_;simp only[yB];obtain⟨m1,l,f6,⟨g0,g1⟩,rfl,hJ⟩:=hS.send h0 he g2;obtain⟨m,rfl⟩:∃m,m1=m+1:=⟨m1-1,by omega⟩
   rw[f6];clear f6 he hS;have hT:=hT (by omega);refine wpS_seq ?_;refine KC (zk ?_);simp only[List.size_toArray,List.length_cons,List.length_nil,Nat.reduceAdd,Nat.zero_add,List.range,List.range.loop];co_applyP z8 rfl (by rfl)
   case hv=>intro W K hK;go_simp;exact hK
   case he=>intro W;simp[go_sem, *]
   try walk_nrm
   co_applyP z8 rfl (by rfl)
   case hv=>intro W K hK;go_simp;exact hK
   case he=>intro W;simp[go_sem, *]
   try walk_nrm
   refine zm ?_;simp only[yB,zI,Z_,Zw];refine wpS_seq ?_;refine KB ?_;simp only[List.size_toArray,List.length_cons,List.length_nil,Nat.reduceAdd,Nat.zero_add,List.range,List.range.loop];co_applyP KV rfl (by rfl)
   case hv=>intro W K hK;go_simp;exact hK
   case he=>intro W;simp[go_sem, *]
   try walk_nrm
   co_applyP KV rfl (by rfl)
   case hv=>intro W K hK;go_simp;exact hK
   case he=>intro W;simp[go_sem, *]
   try walk_nrm
   try simp only[List.map_cons]
   refine gX rfl (by rfl) rfl (by simp[Act.eval]) (by simp[Act.eval]) ?_;intro w3 hR;replace hF:=HR.rely (Old:=Old) hF hR;replace hO:=KO.rely hO hR;clear hR;try walk_nrm
   refine Uy ?_;simp only[yB];have g3:=e8 (m+1) g0 g1;obtain⟨pa,pc,f3,f4⟩:=hT.par m (by omega);have i1:((m+1:Nat):Int)-1=(m:Int):=by omega
   have i2:IntKind.i64.wrap (m:Int)=(m:Int):=by rw[IntKind.wrap_i64];omega
   have i3:(m:Int)<(K:Int):=by omega
   have i4:(m:Int)+1-1=(m:Int):=by omega
   refine wpS_seq ?_;refine KC (zk ?_);simp only[List.size_toArray,List.length_cons,List.length_nil,Nat.reduceAdd,Nat.zero_add,List.range,List.range.loop];co_applyP z8 rfl (by rfl)
   case hv=>intro W K hK;go_simp;exact hK
   case he=>intro W;simp[go_sem, *]
   try walk_nrm
   co_applyP z8 rfl (by rfl)
   case hv=>intro W K hK;go_simp;exact hK
   case he=>intro W;simp[go_sem, *]
   try walk_nrm
   co_applyP z8 rfl (by rfl)
   case hv=>intro W K hK;go_simp;exact hK
   case he=>intro W;simp[go_sem, *]
   try walk_nrm
   refine zG rfl (by rfl) ?_;intro w9 hR K9 hK;replace hF:=HR.rely (Old:=Old) hF hR;replace hO:=KO.rely hO hR;clear hR;have hc:=(hT.keep hO).c1;go_simp
   refine hK _ _ A2 ?_ ?_
   ·exact zC _ (by co_evs (exact uD hT.oB _))
   clear hK K9;try walk_nrm
   clear hc;co_applyP z8 rfl (by rfl)
   case hv=>intro W K hK;go_simp;exact hK
   case he=>intro W;simp[go_sem, *]
   try walk_nrm
   co_applyP z8 rfl (by rfl)
   case hv=>intro W K hK;go_simp;exact hK
   case he=>intro W;simp[go_sem, *]
   try walk_nrm
   co_applyP z8 rfl (by rfl)
   case hv=>intro W K hK;go_simp;exact hK
   case he=>intro W;simp[go_sem, *]
   try walk_nrm
   co_applyP z8 rfl (by rfl)
   case hv=>intro W K hK;go_simp;exact hK
   case he=>intro W;simp[go_sem, *]
   try walk_nrm
   refine zG rfl (by rfl) ?_;intro w9 hR K9 hK;replace hF:=HR.rely (Old:=Old) hF hR;replace hO:=KO.rely hO hR;clear hR;have hc:=(hO.cell (p:=⟨g,m*2,none⟩) hT.og).trans f3;go_simp
   refine hK _ _ A2 ?_ ?_
   ·exact zC _ (by co_evs (exact uD hT.og _))
   clear hK K9;try walk_nrm
   clear hc;co_applyP z8 rfl (by rfl)
   case hv=>intro W K hK;go_simp;exact hK
   case he=>intro W;simp[go_sem, *]
   try walk_nrm
   co_applyP z8 rfl (by rfl)
   case hv=>intro W K hK;go_simp;exact hK
   case he=>intro W;simp[go_sem, *]
   try walk_nrm
   refine zm ?_;simp only[yB,zI,Z_,Zw];refine KC (Ys ?_);refine KD (fun A a w=>∃(j:Nat) (v:Value) (n1:Nat) (x1:Nat→Int) (t3 t4 t5 t9 a0 a1 a2 a3 a4 a5 a6 a7 a8 a9 b1 b2 b3 b4 b5 b6 b7 b8 b9 c6 c7 c8 c9 d3 d4 d5 d6 d7 d8 d9:Value),j≤(ps (m+1)).length∧HR A nb v n1 x1 w∧KO Old A w0 w∧SJ ps K n1 x1 (m+1) ((ps (m+1)).drop j) l∧n1=n-1+j∧a=⟨#[.pointer (some ⟨B,0,none⟩),.int .i64 (h:Int),.chan (some c),t3,t4,t5,.pointer (some ⟨nb,0,none⟩),.int .i64 ((m+1:Nat):Int),.int .i64 ((m+1:Nat):Int),t9,a0,a1,a2,a3,a4,a5,a6,a7,a8,a9,b1,b2,b3,b4,b5,b6,b7,b8,b9,c6,c7,c8,c9,d3,.slice pa (ps (m+1)).length pc,.int .i64 ((ps (m+1)).length:Int),.int .i64 (j:Int),d4,d5,d6,d7,d8,d9],[D]⟩) (fun _ a _=>(ps (m+1)).length-(intOf (a.tmps.getD 36 undef)).toNat) ⟨0,v2,n-1,_,_,_,_,_,_,_,_,_,_,_,_,_,_,_,_,_,_,_,_,_,_,_,_,_,_,_,_,_,_,_,_,_,_,_,by omega,hF,hO,hJ,rfl,rfl⟩ ?_;clear hF hO hJ i1 i2 i3 i4;rintro A a w ⟨j,v,n1,x1,t3,t4,t5,t9,a0,a1,a2,a3,a4,a5,a6,a7,a8,a9,b1,b2,b3,b4,b5,b6,b7,b8,b9,c6,c7,c8,c9,d3,d4,d5,d6,d7,d8,d9,hj,hF,hO,hJ,f0,rfl⟩;refine wpO_seq ?_;refine zk ?_;simp only[List.size_toArray,List.length_cons,List.length_nil,Nat.reduceAdd,Nat.zero_add,List.range,List.range.loop];co_applyP z8 rfl (by rfl)
   case hv=>intro W K hK;go_simp;exact hK
   case he=>intro W;simp[go_sem, *]
   try walk_nrm
   refine zm ?_;simp only[yB,zI,Z_,Zw];refine wpO_seq ?_;by_cases e7:j<(ps (m+1)).length
   case neg=>
    refine Zk (t:=false) (by simp[Act.eval];omega) ?_;simp only[Bool.false_eq_true,if_false];refine KE ?_;simp only[yB,zI,Z_,Zw,if_true];rw[List.drop_of_length_le (by omega)]at hJ;simp only[List.length_cons]at hn⊢;exact⟨3*l.length+n1,by omega,l,v,n1,x1,_,_,_,_,_,_,_,_,_,_,_,_,_,_,_,_,_,_,_,_,_,_,_,_,_,_,_,_,_,_,_,_,_,_,_,_,_,_,_,rfl,hF,hO,hJ.done,by omega,rfl,rfl⟩
   refine Zk (t:=true) (by simp[Act.eval];omega) ?_;simp only[if_true];refine y9 ?_;simp only[zI];obtain⟨bb,off,rfl,e9,f5⟩:=f4 j e7;clear f3 f4;have e6:(ps (m+1)).drop j=(ps (m+1)).getD j 0::(ps (m+1)).drop (j+1):=by
    rw[List.drop_eq_getElem_cons e7,List.getD_eq_getElem?_getD,j0d e7];rfl
   generalize(ps (m+1)).getD j 0=q at e6 f5;rw[e6]at hJ;replace hJ:=hJ.push;clear e6;have f9:n1≤900:=by omega
   have HN:Hid (n1=n-1+j):=f0;clear f0;have i5:(j:Int)<((ps (m+1)).length:Int):=by omega
   refine wpO_seq (Ys ?_);refine wpO_seq ?_;refine zk ?_;simp only[List.size_toArray,List.length_cons,List.length_nil,Nat.reduceAdd,Nat.zero_add,List.range,List.range.loop];co_applyP z8 rfl (by rfl)
   case hv=>intro W K hK;go_simp;exact hK
   case he=>intro W;simp[go_sem, *]
   try walk_nrm
   refine zG rfl (by rfl) ?_;intro w9 hR K9 hK;replace hF:=HR.rely (Old:=Old) hF hR;replace hO:=KO.rely hO hR;clear hR;have hc:=(hO.cell (p:=⟨bb,off+j,none⟩) e9).trans f5;go_simp
   refine hK _ _ A ?_ ?_
   ·exact zC _ (by co_evs (exact uD e9 _))
   clear hK K9;try walk_nrm
   clear hc;co_applyP z8 rfl (by rfl)
   case hv=>intro W K hK;go_simp;exact hK
   case he=>intro W;simp[go_sem, *]
   try walk_nrm
   refine zm ?_;simp only[yB,zI,Z_,Zw];refine zk ?_;simp only[List.size_toArray,List.length_cons,List.length_nil,Nat.reduceAdd,Nat.zero_add,List.range,List.range.loop];co_applyP z8 rfl (by rfl)
   case hv=>intro W K hK;go_simp;exact hK
   case he=>intro W;simp[go_sem, *]
   try walk_nrm
   refine xC rfl (by rfl) rfl (by simp[Act.eval]) (Qc (F7 (main:=false) (Old:=Old) nb n1 v x1 (q:Int) f9 _ hF) hO) ?_;clear hF hO;rintro A3 r w3 ⟨⟨f7,rfl,v3,hF⟩,hO⟩;try walk_nrm
   refine zm ?_;simp only[yB,zI,Z_,Zw];have i7:IntKind.i64.wrap ((j:Int)+1)=(j:Int)+1:=by rw[IntKind.wrap_i64];omega
   refine zk ?_;simp only[List.size_toArray,List.length_cons,List.length_nil,Nat.reduceAdd,Nat.zero_add,List.range,List.range.loop];co_applyP z8 rfl (by rfl)
   case hv=>intro W K hK;go_simp;exact hK
   case he=>intro W;simp[go_sem, *]
   try walk_nrm
   co_applyP z8 rfl (by rfl)
   case hv=>intro W K hK;go_simp;exact hK
   case he=>intro W;simp[go_sem, *]
   try walk_nrm
   refine zm ?_;simp only[yB,zI,Z_,Zw];refine⟨⟨j+1,v3,n1+1,_,_,_,_,_,_,_,_,_,_,_,_,_,_,_,_,_,_,_,_,_,_,_,_,_,_,_,_,_,_,_,_,_,_,_,by omega,hF,hO,hJ,by have:=HN.out;omega,rfl⟩,?_⟩;simp[intOf];omega
end
structure ze (w w' :World):Prop where
 os:w'.os=w.os
 output:w'.output=w.output
 size:w.heap.size≤w'.heap.size
 block:∀b,b<w.heap.size→w'.heap[b]? =w.heap[b]?
theorem ze.re {w w' :World}(h:ze w w')(T:Nat→Question→Nat)(d:Nat):ze w (Go.Proofs.YtolgebdmffcemaaGreatDoor.re w' T d):=⟨h.os,h.output,h.size,h.block⟩
structure NR (A:Blk)(v:Value)(xs:List Value)(w:World):Prop where
 row:w.ownsRow 0 3 1 v xs.length xs
 own:∀g,v.ownBlock=some g→A g
section
variable {Old A:Blk}{v:Value}{xs:List Value}{w w1:World}
theorem NR.rely (h:NR A v xs w)(r:Rel Old A w w1):NR A v xs w1:=⟨ZI h.row fun g hg=>r.own g (.inl (h.own g hg)),h.own⟩
theorem NR.alloc (h:NR A v xs w)(o:Obj):NR (fun b=>A b∨b=w.heap.size) v xs (w.alloc o):=⟨h.row.alloc o,fun g hg=> .inl (h.own g hg)⟩
end
theorem TC.mono {Old a0 :Blk}{B g cap K:Nat}{ps:Nat→List Nat}{w w' :World}(h:TC Old B g cap K ps w)(hO:∀b,Old b→a0 b)(hw:∀b,Old b→w'.heap[b]? =w.heap[b]?):TC a0 B g cap K ps w' :=by
 have hc:∀p:Addr,Old p.block→w'.cell? p=w.cell? p:=fun p hp=>by simp only[World.cell?,hw _ hp]
 refine⟨hO _ h.oB,hO _ h.og,by rw[hc ⟨B,1,none⟩ h.oB];exact h.c1,fun m hm=> ?_⟩;obtain⟨pa,pc,h1,h2⟩:=h.par m hm;refine⟨pa,pc,by rw[hc ⟨g,m*2,none⟩ h.og];exact h1,fun j hj=> ?_⟩;obtain⟨b,off,e,hb,a1⟩:=h2 j hj;exact⟨b,off,e,hO b hb,by rw[hc ⟨b,off+j,none⟩ hb];exact a1⟩
theorem fg {P:Program}{main:Bool}{Old A:Blk}{fn:FuncId}{c:Code}{Q:Exit→Blk→Act→World→Prop}{Z:Blk→Goroutine→World→Prop}{a:Act}{w:World}{b:Frame}{k:List Item}{cs:List Frame}(h:wpO P main Old fn c Q A a w)(hb:b.fn=fn)(hk:b.kind≠ .early)(hc:∀e A' a' w',Q e A' a' w' →Qf P main Old Z b k cs e A' a' w'):OW P main Old Z A (G (b.at a (.code c::k)) cs) w:=h b k cs Z hb hk hc
section
theorem gI (hP:zF Tryz.prog){B g cap K h:Nat}{ps:Nat→List Nat}{w:World}(hT:0<K→TC (fun b=>b<w.heap.size) B g cap K ps w)(hh:h≤K)(hK:K≤60)(f0:∀m,1≤m→m≤K→∀p∈ps m,1≤p∧p<m)(d5:∀m,1≤m→m≤K→(ps m).length≤2):
  zO Tryz.prog 70 #[.pointer (some ⟨B,0,none⟩),.int .i64 (h:Int)] w fun v w' =>w'.ownsRow 0 3 1 v (hist ps K [h]).length ((hist ps K [h]).map (fun n:Nat=>Value.int .i64 (n:Int)))∧(∀g,v.ownBlock=some g→w.heap.size≤g)∧ze w w' :=by
 refine zR hP Tryz.func70 rfl ?_;simp only[Tryz.ntmps70,List.size_toArray,List.length_cons,List.length_nil,Nat.reduceAdd,Nat.reduceSub,Array.replicate_succ,Array.replicate_zero,List.push_toArray,List.append_toArray,List.nil_append,List.cons_append];refine zx hP ?_;refine XW hP ?_;simp only[List.size_toArray,List.length_cons,List.length_nil,Nat.reduceAdd,Nat.zero_add,List.range,List.range.loop];co_applyP Ux hP rfl (by rfl)
 case hv=>intro W K hK;go_simp;exact hK
 try walk_nrm
 refine Xr hP ?_;simp only[Exit.then];refine zx hP ?_;refine XW hP ?_;simp only[List.size_toArray,List.length_cons,List.length_nil,Nat.reduceAdd,Nat.zero_add,List.range,List.range.loop];obtain⟨i0,a6,b1,b2,b3⟩:=info_parts Vt;have e3:∀W,(Instr.makeChan 157 (.int .i64 0)).run Tryz.prog W= .ok (.chan (some W.heap.size)) (W.alloc (.chan 0 #[] false 0 0 false)):=fun W=>run_makeChan Tryz.underlying157 a6 .i64 0 (by omega) (by simp)
 refine fj hP rfl (by rfl) (fun v w' =>v= .chan (some w.heap.size)∧∃T d,w' =re (w.alloc (.chan 0 #[] false 0 0 false)) T d) (fun v w' T d ⟨e,T',d',e'⟩=>⟨e,T,d,by rw[e'];rfl⟩) (fun T d=>⟨.chan (some w.heap.size),re (w.alloc (.chan 0 #[] false 0 0 false)) T d,by unfold execOp;simp[go_sem,e3,Act.eval];exact⟨rfl,rfl⟩,rfl,T,d,rfl⟩) ?_;rintro v w' ⟨rfl,T,d,rfl⟩;refine zFS ?_ T d;have d9:(w.alloc (.chan 0 #[] false 0 0 false)).heap[w.heap.size]? =some (.chan 0 #[] false 0 0 false):=heap_alloc_new w _;have a9:ze w (w.alloc (.chan 0 #[] false 0 0 false)):=⟨rfl,rfl,by simp,fun b hb=>Below.heap_alloc _ _ _ hb⟩
 have d8:(w.alloc (.chan 0 #[] false 0 0 false)).heap.size=w.heap.size+1:=by simp
 obtain⟨c,HC⟩:∃c,Hid (c=w.heap.size):=⟨_,rfl⟩
 rw[←HC.out]at d9 d8 hT⊢;generalize w.alloc (.chan 0 #[] false 0 0 false)=w0 at*;clear T d e3 a6 b1 b2 b3;have e9:∀b,xP w0 c b→b<c:=fun b hb=>by have:=hb.1;have:=hb.2;omega
 have a4:∀b,b<c→xP w0 c b:=fun b hb=>⟨by omega,by omega⟩
 have e7:0<K→TC (xP w0 c) B g cap K ps w0:=fun h=>(hT h).mono a4 fun b hb=>a9.block b (by rw[←HC.out];exact hb)
 clear hT;have HS:Hid (w0.heap.size=c+1):=d8;clear d8;try walk_nrm
 co_applyP Ux hP rfl (by rfl)
 case hv=>intro W K hK;go_simp;exact hK
 try walk_nrm
 refine Xr hP ?_;simp only[Exit.then];intro b k cs Z d4 hO hb hq;refine ToE.ctl hP (hO.cons (by trivial)).fit ⟨rfl,rfl⟩ (fun w=>step_seq) (ToE.ctl hP ((hO.cons (by trivial)).cons (by trivial)).fit ⟨rfl,rfl⟩ (fun w=>step_region) ?_);simp only[List.size_toArray,List.length_cons,List.length_nil,Nat.reduceAdd,Nat.zero_add,List.range,List.range.loop];co_applyP XZ hP (hO.cons (by trivial)) rfl (by rfl)
 case hv=>intro W K hK;go_simp;exact hK
 try walk_nrm
 co_applyP XZ hP (hO.cons (by trivial)) rfl (by rfl)
 case hv=>intro W K hK;go_simp;exact hK
 try walk_nrm
 co_applyP XZ hP (hO.cons (by trivial)) rfl (by rfl)
 case hv=>intro W K hK;go_simp;exact hK
 try walk_nrm
 have d6:(hist ps K [h]).length≤60:=by have:=Vu ps K [h];omega
 have a8:∀u∈(hist ps K [h]).map (fun n:Nat=>Value.int .i64 (n:Int)),∃val:Int,u= .int .i64 val:=fun u hu=>by obtain⟨n,_,rfl⟩:=List.mem_map.1 hu;exact⟨_,rfl⟩
 refine cW (c:=c) (z:= .int .i64 0) (vs:=(hist ps K [h]).map (fun n:Nat=>Value.int .i64 (n:Int))) (d:=dcall 108 #[.pointer (some ⟨B,0,none⟩),.int .i64 (h:Int),.chan (some c)]) (f:= .func 108) (cc:= #[]) rfl (by rfl) hb (fun W=>by unfold execOp;simp[resolve,Deferred.ofValue,Act.eval,dcall]) (fun W=>by unfold execOp;simp[resolve,Deferred.ofValue,Act.eval,dcall]) rfl ⟨0,0,false,d9⟩ ?_ ?_
 case refine_2=>
  intro T e;exact GS (w0:=re w0 T e) (fun h=>(e7 h).mono (fun _ x=>x) (fun _ _=>rfl)) (fun b hb=>⟨fun x=>x.elim,hb.1,rfl⟩) hh hK f0 d5
 intro T e;rw[xl];refine OW.ctl rfl (fun _=>stepG_region_end) (OW.ctl rfl (fun _=>stepG_seq) ?_);refine fg (fn:=70) (Q:=fun e1 A a' w' =>e1= .normal∧A=Zp∧w' =re w0 T e∧a' =⟨#[.pointer (some ⟨B,0,none⟩),.int .i64 (h:Int),undef,undef,.slice none 0 0,.chan (some c),.slice none 0 0,undef,.chan (some c),.pointer (some ⟨B,0,none⟩),.int .i64 (h:Int),.chan (some c),undef,undef,undef,undef,undef,undef,undef,undef,undef],[]⟩) ?_ d4 hb ?_
 ·refine zk ?_
  simp only[List.size_toArray,List.length_cons,List.length_nil,Nat.reduceAdd,Nat.zero_add,List.range,List.range.loop];co_applyP z8 rfl (by rfl)
  case hv=>intro W K hK;go_simp;exact hK
  case he=>intro W;simp[go_sem, *]
  try walk_nrm
  refine zm ?_;exact⟨rfl,rfl,rfl,rfl⟩
 rintro e1 A a' w' ⟨rfl,rfl,rfl,rfl⟩;refine OW.ctl rfl (fun _=>stepG_seq) (OW.ctl rfl (fun _=>stepG_seq) ?_);refine fg (fn:=70) (Q:=fun e1 A a' w' =>e1= .normal∧A=Zp∧w' =re w0 T e∧a' =⟨#[.pointer (some ⟨B,0,none⟩),.int .i64 (h:Int),undef,undef,.slice none 0 0,.chan (some c),.slice none 0 0,undef,.chan (some c),.pointer (some ⟨B,0,none⟩),.int .i64 (h:Int),.chan (some c),.chan (some c),undef,undef,undef,undef,undef,undef,undef,undef],[]⟩) ?_ d4 hb ?_
 ·refine zk ?_
  simp only[List.size_toArray,List.length_cons,List.length_nil,Nat.reduceAdd,Nat.zero_add,List.range,List.range.loop];co_applyP z8 rfl (by rfl)
  case hv=>intro W K hK;go_simp;exact hK
  case he=>intro W;simp[go_sem, *]
  try walk_nrm
  refine zm ?_;exact⟨rfl,rfl,rfl,rfl⟩
 rintro e1 A a' w' ⟨rfl,rfl,rfl,rfl⟩;refine OW.ctl rfl (fun _=>stepG_block) (OW.ctl rfl (fun _=>stepG_loop) ?_);rw[←xl];refine fe (fn:=70) (all:=(hist ps K [h]).map (fun n:Nat=>Value.int .i64 (n:Int))) rfl (by rfl) rfl d4 hb rfl (fun xs A a w=>∃(v:Value) (t2 t3 t4 t7 t8 t9 b4 b5 b6 b7 b8 b9 c6 c7 c8 c9:Value),NR A v xs w∧KO (xP w0 c) A (re w0 T e) w∧a=⟨#[.pointer (some ⟨B,0,none⟩),.int .i64 (h:Int),t2,t3,t4,.chan (some c),v,t7,t8,t9,b4,b5,.chan (some c),b6,b7,b8,b9,c6,c7,c8,c9],[]⟩) ?_ ?_ ?_ ?_ _ [] _ _ _ (by simp) ?_
 ·rintro xs A a w w1 ⟨v,t2,t3,t4,t7,t8,t9,b4,b5,b6,b7,b8,b9,c6,c7,c8,c9,hF,a0,rfl⟩ hR
  exact⟨v,_,_,_,_,_,_,_,_,_,_,_,_,_,_,_,_,hF.rely hR,a0.rely hR,rfl⟩
 ·rintro xs A a w ⟨v,t2,t3,t4,t7,t8,t9,b4,b5,b6,b7,b8,b9,c6,c7,c8,c9,hF,a0,rfl⟩
  refine⟨by rfl,by simp[Act.eval],fun W=> ?_,fun W=> ?_⟩
  all_goals
   unfold execOp;simp[go_sem,Act.eval,rcase]
 ·rintro xs u vs A a w a7 ⟨v,t2,t3,t4,t7,t8,t9,b4,b5,b6,b7,b8,b9,c6,c7,c8,c9,hF,a0,rfl⟩
  obtain⟨val,rfl⟩:=a8 u (by rw[←a7];simp);have f3:xs.length≤60:=by have:=congrArg List.length a7;simp at this;omega
  try walk_nrm
  co_applyP z8 rfl (by rfl)
  case hv=>intro W K hK;go_simp;exact hK
  case he=>intro W;simp[go_sem, *]
  try walk_nrm
  refine zm ?_;refine⟨rfl,?_⟩;refine wpO_seq ?_;refine Zk (t:=true) (by simp[Act.eval]) ?_;simp only[if_true];refine y9 ?_;simp only[zI];refine Ys ?_;refine wpO_seq ?_;refine zk ?_;simp only[List.size_toArray,List.length_cons,List.length_nil,Nat.reduceAdd,Nat.zero_add,List.range,List.range.loop];co_applyP z8 rfl (by rfl)
  case hv=>intro W K hK;go_simp;exact hK
  case he=>intro W;simp[go_sem, *]
  try walk_nrm
  co_applyP z8 rfl (by rfl)
  case hv=>intro W K hK;go_simp;exact hK
  case he=>intro W;simp[go_sem, *]
  try walk_nrm
  refine zm ?_;simp only[zI,Zw];refine zk ?_;simp only[List.size_toArray,List.length_cons,List.length_nil,Nat.reduceAdd,Nat.zero_add,List.range,List.range.loop];co_applyP z8 rfl (by rfl)
  case hv=>intro W K hK;go_simp;exact hK
  case he=>intro W;simp[go_sem, *]
  try walk_nrm
  co_applyP z8 rfl (by rfl)
  case hv=>intro W K hK;go_simp;exact hK
  case he=>intro W;simp[go_sem, *]
  try walk_nrm
  refine zG rfl (by rfl) ?_;intro w1 hR K9 hK;replace hF:=NR.rely (Old:=xP w0 c) hF hR;replace a0:=KO.rely a0 hR;clear hR;go_simp
  replace a0:=a0.guar (xN (A:=A) w1 (.cells #[.int .i64 val] 3) (es:= #[]) (by simp));refine hK _ _ (fun b=>A b∨b=w1.heap.size) (xN w1 _ (by co_evs (skip))) ?_;clear hK K9;have hX:(w1.alloc (.cells #[.int .i64 val] 3)).heap[w1.heap.size]? =some (.cells #[.int .i64 val] 3 (0,0)):=heap_alloc_new w1 _;have e8:∀g,v.ownBlock=some g→g≠w1.heap.size:=fun g hg=>by have:=(hF.row.lt g hg).2;omega
  replace hF:=hF.alloc (.cells #[.int .i64 val] 3);obtain⟨A2,d3⟩:∃A2:Blk,A2=fun b=>A b∨b=w1.heap.size:=⟨_,rfl⟩
  rw[←d3]at hF a0⊢;have a2:A2 w1.heap.size:=by rw[d3];exact .inr rfl
  clear d3;generalize w1.alloc (.cells #[.int .i64 val] 3)=w2 at*;generalize w1.heap.size=ab at*;try walk_nrm
  refine zG rfl (by rfl) ?_;intro w3 hR K9 hK;replace hX:w3.heap[ab]? =some (.cells #[.int .i64 val] 3 (0,0)):=(hR.own ab (.inl a2)).trans hX;replace hF:=NR.rely (Old:=xP w0 c) hF hR;replace a0:=KO.rely a0 hR;clear hR;obtain⟨i0,a6,b1,b2,b3⟩:=info_parts Vt;have a5:∀j u,[Value.int .i64 val][j]? =some u→w3.cell? ((⟨ab,0,none⟩:Addr).add j)=some u:=fun j u hu=>by
   match j,hu with
   |0,hu=>simp at hu;subst hu;simp[Addr.add,World.cell?,hX]
  obtain⟨v2,w4,hr,ho,hg,_,a3⟩:=run_append_own_at (P:=Tryz.prog) w3 0 39 39 3 i0 (.int .i64 0) 1 8 Tryz.underlying39 a6 b1 b2 b3 rfl (by decide) v xs.length _ hF.row ⟨ab,0,none⟩ 1 1 [.int .i64 val] rfl a5 (by intro u hu;simp at hu;subst hu;rfl) (by unfold maxLen;omega) (by omega) (Nat.zero_le _);have e2:=events_append_where (P:=Tryz.prog) w3 0 39 39 3 i0 (.int .i64 0) 1 8 Tryz.underlying39 a6 b1 b2 b3 v xs.length _ hF.row ⟨ab,0,none⟩ 1 1 [.int .i64 val] rfl a5 (by intro u hu;simp at hu;subst hu;rfl) (by unfold maxLen;omega) (by omega);refine uponK_append (.tmp 16) (.tmp 18) 39 rfl (by simp[Act.eval]) (by simp[Act.eval]) hr ?_;refine hK _ _ (fun b=>A2 b∨(w3.heap.size≤b∧b<w4.heap.size)) ?_ ?_
  ·refine⟨hg.tape,hg.os,hg.output,hg.size,fun _ h=> .inl h,fun _ h=>h,fun b hb hn=>hg.block b hb fun e=>hn (hF.own b e.symm),fun e he=> ?_⟩
   have hm:=mem_listed he;rw[events_append_op (v:=v) (xv:= .slice (some ⟨ab,0,none⟩) 1 1) (.tmp 16) (.tmp 18) 39 rfl (by simp[Act.eval]) (by simp[Act.eval])]at hm;rcases e2 e hm with⟨ad,h1,h2⟩|⟨mk,rfl,d7⟩
   ·refine .inl ⟨ad,h1,.inl ?_⟩
    rcases h2 with h2|h2
    ·rw[h2.2];exact .inl a2
    ·exact .inl (hF.own _ h2.symm)
   ·exact .inr (.inl ⟨mk,rfl,d7⟩)
  clear hK K9 e2 a5;replace a0:=a0.guar (A' :=fun b=>A2 b∨(w3.heap.size≤b∧b<w4.heap.size)) (w' :=w4) (es:= #[]) ⟨hg.tape,hg.os,hg.output,hg.size,fun _ h=> .inl h,fun _ h=>h,fun b hb hn=>hg.block b hb fun e=>hn (hF.own b e.symm),by simp⟩;have e6:NR (fun b=>A2 b∨(w3.heap.size≤b∧b<w4.heap.size)) v2 (xs++ [.int .i64 val]) w4:=by
   refine⟨by rw[List.length_append];exact ho,fun g e=> ?_⟩;rcases a3 with a3|a3
   ·exact .inl (hF.own g (a3▸e))
   ·rw[a3]at e
    obtain rfl:=Option.some.inj e;exact .inr ⟨j0a _,(ho.lt _ (a3▸rfl)).2⟩
  clear ho a3 hr hg hX hF e8 a2 a6 b1 b2 b3;try walk_nrm
  co_applyP z8 rfl (by rfl)
  case hv=>intro W K hK;go_simp;exact hK
  case he=>intro W;simp[go_sem, *]
  try walk_nrm
  refine zm ?_;simp only[zI,Zw];exact⟨by first|rfl|trivial,v2,_,_,_,_,_,_,_,_,_,_,_,_,_,_,_,_,e6,a0,rfl⟩
 ·rintro A a wf ⟨v,t2,t3,t4,t7,t8,t9,b4,b5,b6,b7,b8,b9,c6,c7,c8,c9,hF,a0,rfl⟩ a1
  try walk_nrm
  co_applyP XZ hP ((((hO.cons (by trivial)).cons (by trivial)).cons (by trivial)).cons (by trivial)) rfl (by rfl)
  case hv=>intro W K hK;go_simp;exact hK
  try walk_nrm
  refine ToE.ctl hP (OkK.fit (((((hO.cons (by trivial)).cons (by trivial)).cons (by trivial)).cons (by trivial)).cons (by trivial))) ⟨rfl,rfl⟩ (fun w=>step_region_end) ?_;refine ToE.ctl hP (OkK.fit ((((hO.cons (by trivial)).cons (by trivial)).cons (by trivial)).cons (by trivial))) ⟨rfl,rfl⟩ (fun w=>step_seq) ?_;refine ToE.ctl hP (OkK.fit (((((hO.cons (by trivial)).cons (by trivial)).cons (by trivial)).cons (by trivial)).cons (by trivial))) ⟨rfl,rfl⟩ (fun w=>step_cond (t:=false) (by simp[Act.eval])) ?_;simp only[Bool.false_eq_true,if_false];refine ToE.ctl hP (OkK.fit (((((hO.cons (by trivial)).cons (by trivial)).cons (by trivial)).cons (by trivial)).cons (by trivial))) ⟨rfl,rfl⟩ (fun w=>step_exit rfl) ?_;refine ToE.ctl hP (OkK.fit (hO.cons (by trivial))) ⟨rfl,rfl⟩ (fun w=>step_seq) ?_;refine ToE.ctl hP (OkK.fit ((hO.cons (by trivial)).cons (by trivial))) ⟨rfl,rfl⟩ (fun w=>step_region) ?_;simp only[List.size_toArray,List.length_cons,List.length_nil,Nat.reduceAdd,Nat.zero_add,List.range,List.range.loop];co_applyP XZ hP (hO.cons (by trivial)) rfl (by rfl)
  case hv=>intro W K hK;go_simp;exact hK
  try walk_nrm
  co_applyP XZ hP (hO.cons (by trivial)) rfl (by rfl)
  case hv=>intro W K hK;go_simp;exact hK
  try walk_nrm
  refine ToE.ctl hP (OkK.fit ((hO.cons (by trivial)).cons (by trivial))) ⟨rfl,rfl⟩ (fun w=>step_region_end) ?_;refine ToE.ctl hP (OkK.fit (hO.cons (by trivial))) ⟨rfl,rfl⟩ (fun w=>step_ret) ?_;refine hq .ret _ wf ⟨rfl,v,fun W=>by exact results_tmp (fn:=Tryz.f70) (t:=4) (by rfl) _ _ _,?_,fun g e1=> ?_,?_⟩ _ (hO.cons (by trivial)).1
  ·have:=hF.row
   simpa using this
  ·by_cases hg:g<c
   ·exact absurd (hF.own g e1) (a0 g (a4 g hg)).1
   ·omega
  ·refine⟨a1.os.trans a9.os,a1.output.trans a9.output,j0f a9.size a1.size,fun b hb=> ?_⟩
   exact(a1.own b (.inr (a4 b (by rw[HC.out];exact hb)))).trans (a9.block b hb)
 exact⟨_,_,_,_,_,_,_,_,_,_,_,_,_,_,_,_,_,⟨⟨by simp,.inl ⟨rfl,rfl⟩⟩,fun g hg=>by simp[Value.ownBlock]at hg⟩,fun b hb=>⟨fun x=>x.elim,hb.1,rfl⟩,rfl⟩
end
