import Derived.Test.YtolgebdmffcemaaGreatDoorQ30
import Derived.Test.YtolgebdmffcemaaGreatDoorQ28
set_option linter.all false
set_option maxHeartbeats 20000000
set_option maxRecDepth 1000000
open Go.Proofs.Tryz renaming prog→rJ,f152→IX,results152→IY,func103→IZ,func64→L0,results35→L1,results49→L2
open List renaming size_toArray→sE,length_cons→mC,length_nil→mS,push_toArray→sJ,append_toArray→sL,nil_append→mJ,cons_append→lN,getD_eq_getElem?_getD→iJ,take_succ_cons→IP,take_zero→IQ,drop_succ_cons→IR,drop_zero→IS
open Nat renaming reduceAdd→sF,reduceSub→sG,lt_irrefl→EL,zero_add→iX
open Array renaming replicate_succ→sH,replicate_zero→sI
namespace Go.Proofs.YtolgebdmffcemaaGreatDoor
open Go Go.Conc Go.RowKit
def df (N:Nat→Prop)(W:World)(t:List R.Leaf)(v:Value)(W' :World):Prop:=(∃ta tc,v= .slice ta t.length tc∧PT W' N (.slice ta t.length tc) t)∧zf W W'
theorem kp (st:R.St)(n:Nat):R.treeOf st n=R.treeC st.cms n:=rfl
theorem Fs {N O:Nat→Prop}{B mb:Nat}{st:R.St}{bv cv:Value}{LB:List BrP}{LCm:List (R.Cm×Value×Value)}{W:World}(hi:Inv st)(hR:RI N O B mb st bv cv LB LCm W)(n:Nat)(hn:n≤st.cms.length):
  zO rJ 52 #[.pointer (some ⟨B,0,none⟩),.int .i64 (n:Int)] W (df N W (R.treeC st.cms n)):=
 callsT_lone xT (fun v w T d h=>⟨h.1,h.2.re T d⟩) fun T d=>(Ye (hR.re T d).ps n hn hi.few).mono fun e w' ⟨ta,tc,h1,h2,h3⟩=>⟨_,h1,⟨ta,tc,rfl,by rw[h3];exact h2⟩,by rw[h3];exact(zf.refl W).re T d⟩
def KR (bx B mb g:Nat)(l:List Nat)(W:World):Prop:=W.cell? ⟨bx,0,none⟩=some (.pointer (some ⟨B,0,none⟩))∧W.cell? ⟨bx,1,none⟩=some (.map (some mb))∧∀j (h:j<l.length),W.cell? ⟨g,j,none⟩=some (.int .i64 (l[j]:Int))
theorem KR.re {bx B mb g:Nat}{l:List Nat}{W:World}(h:KR bx B mb g l W)(T:Nat→Question→Nat)(d:Nat):KR bx B mb g l (Go.Proofs.YtolgebdmffcemaaGreatDoor.re W T d):=h
theorem KR.keptX {bx B mb g:Nat}{l:List Nat}{W W' :World}(h:KR bx B mb g l W)(k:yT mb W W')(h1:bx<W.heap.size)(h2:bx≠mb)(h3:g<W.heap.size)(h4:g≠mb):KR bx B mb g l W' :=
 ⟨(k.cell (p:=⟨bx,0,none⟩) h1 h2).trans h.1,(k.cell (p:=⟨bx,1,none⟩) h1 h2).trans h.2.1,fun j hj=>(k.cell (p:=⟨g,j,none⟩) h3 h4).trans (h.2.2 j hj)⟩
def BF (a:Act):Nat:=(intOf (a.tmps.getD 23 undef)).toNat
def C8 (N O:Nat→Prop)(B mb:Nat)(st:R.St)(bv cv:Value)(LB:List BrP)(LCm:List (R.Cm×Value×Value))(w:World)(bx g:Nat)(l:List Nat)(a:Act)(W:World):Prop:=
 ∃(k:Nat) (tk:List R.Leaf) (ta:Option Addr) (tc c1:Nat) (sa:Option Addr) (sc:Nat) (u7 u8 u9 u10 u11 u12 u13 u14 u15 u16 u17 u18 u19 u20 u24 u25 u26 u27 u28 u29 u30 u31 u32 u33 u34 u35 u36 u37 u38 u39 u40 u41 u42 u43 u44 u45 u46 u47 u48 u49 u50 u51 u52 u53 u54:Value),
  a=⟨#[.agg #[.pointer (some ⟨B,0,none⟩),.map (some mb)],.slice (some ⟨g,0,none⟩) l.length c1,.pointer (some ⟨bx,0,none⟩),undef,.slice none 0 0,.int .i64 0,.slice ta tk.length tc,u7,u8,u9,u10,u11,u12,u13,u14,u15,u16,u17,u18,u19,u20,.slice sa (l.length-1) sc,.int .i64 ((l.length-1:Nat):Int),.int .i64 (k:Int),u24,u25,u26,u27,u28,u29,u30,u31,u32,u33,u34,u35,u36,u37,u38,u39,u40,u41,u42,u43,u44,u45,u46,u47,u48,u49,u50,u51,u52,u53,u54,undef],[]⟩∧
  k+1≤l.length∧(2≤l.length→sa=some ⟨g,1,none⟩)∧R.togL (R.baseC st.cms) st.cms l=R.togF (R.baseC st.cms) st.cms (l.getD k 0) tk (l.drop (k+1))∧OkT tk∧PT W N (.slice ta tk.length tc) tk∧RI N O B mb st bv cv LB LCm W∧yT mb w W∧KR bx B mb g l W∧bx<W.heap.size∧g<W.heap.size
theorem C8.re {N O:Nat→Prop}{B mb:Nat}{st:R.St}{bv cv:Value}{LB:List BrP}{LCm:List (R.Cm×Value×Value)}{w:World}{bx g:Nat}{l:List Nat}{a:Act}{W:World}(h:C8 N O B mb st bv cv LB LCm w bx g l a W)(T:Nat→Question→Nat)(d:Nat):C8 N O B mb st bv cv LB LCm w bx g l a (Go.Proofs.YtolgebdmffcemaaGreatDoor.re W T d):=by
 obtain⟨k,tk,ta,tc,c1,sa,sc,u7,u8,u9,a1,a2,a3,a4,a5,a6,a7,a8,a9,b1,b2,b3,b4,b5,b6,b7,b8,b9,c6,c7,c8,c9,d3,d4,d5,d6,d7,d8,d9,e1,e2,e3,e6,e7,e8,e9,f0,f3,f4,f5,f6,f7,h1,h2,h3,h4,h5,h6,h7,h8,h9,a0,h11⟩:=h;exact⟨k,tk,ta,tc,c1,sa,sc,u7,u8,u9,a1,a2,a3,a4,a5,a6,a7,a8,a9,b1,b2,b3,b4,b5,b6,b7,b8,b9,c6,c7,c8,c9,d3,d4,d5,d6,d7,d8,d9,e1,e2,e3,e6,e7,e8,e9,f0,f3,f4,f5,f6,f7,h1,h2,h3,h4,h5,h6,h7.re T d,h8.re T d,h9.re T d,a0,h11⟩
section
theorem gm {N O:Nat→Prop}{B mb:Nat}{st:R.St}{bv cv:Value}{LB:List BrP}{LCm:List (R.Cm×Value×Value)}{w:World}(hi:Inv st)(hR:RI N O B mb st bv cv LB LCm w)(l:List Nat)(va:Option Addr)(vc:Nat)(hl:∀x∈l,1≤x∧x≤st.cms.length)(n3:l.length≤60)
  (ho:w.ownsRow 0 3 1 (.slice va l.length vc) l.length (l.map Zv))(l9:∀g,(Value.slice va l.length vc).ownBlock=some g→g≠mb)
  (e8:∀(W:World) (x y:Nat),RI N O B mb st bv cv LB LCm W→x∈l→y∈l→2≤l.length→zO rJ 103 #[.agg #[.pointer (some ⟨B,0,none⟩),.map (some mb)],.int .i64 (x:Int),.int .i64 (y:Int)] W (yH N O B mb st bv cv LB LCm W (R.baseC st.cms x y))):
  zO rJ 152 #[.agg #[.pointer (some ⟨B,0,none⟩),.map (some mb)],.slice va l.length vc] w (yH N O B mb st bv cv LB LCm w (R.togL (R.baseC st.cms) st.cms l)):=by
 have hP:=xT;have i9:=hi.few;refine zS hP Tryz.func152 rfl ?_;have a8:ReC (zZ rJ IX (yH N O B mb st bv cv LB LCm w (R.togL (R.baseC st.cms) st.cms l))):=ReC.body fun v w' T d h=>h.re T d
 simp only[Tryz.ntmps152,sE,mC,mS,sF,sG,sH,sI,sJ,sL,mJ,lN];have b8:=z6 e8;clear e8
 cases f7:l with
 |nil=>
  subst f7;refine zg hP a8 fun T d=> ?_
  have a5:Hid (∀o:Obj,yH N O B mb st bv cv LB LCm w (R.togL (R.baseC st.cms) st.cms []) (.tuple #[.slice none 0 0,.int .i64 0]) ((re w T d).alloc o)):=fun o=>⟨none,0,rfl,⟨[],rfl,⟨none,0,rfl,j0a _,by unfold maxLen;omega,fun h=>absurd h (EL _)⟩,fun q hq=>by cases hq⟩,(hR.re T d).keptM (zf.of_below ((j0g _ _).alloc (j0a _) o)),(((zf.refl w).re T d).alloc o).x mb⟩
  generalize re w T d=W at*;clear hR b8;go_wp2;refine⟨rfl,_,fun W=> ?_,a5.out _⟩;simp[results,IY,go_sem]
 |cons x0 r0=>
 rw[←f7];have a1:0<l.length:=by rw[f7];simp
 obtain⟨g,rfl,l5,l4⟩:∃g,va=some ⟨g,0,none⟩∧g<w.heap.size∧∀j (h:j<l.length),w.cell? ⟨g,j,none⟩=some (.int .i64 (l[j]:Int)):=by
  obtain⟨a',c',hv,_,_,hn,hs⟩:=zl ho;injection hv with e1 e2 e3
  subst e1
  cases va with
  |none=>have:=(hn rfl).1;omega
  |some ad=>
   obtain⟨g',rfl,_,h1,_,m7⟩:=hs _ rfl;exact⟨g',rfl,h1,fun j hj=>m7 j _ (by rw[List.getElem?_map,j0d hj];rfl)⟩
 have j1:g≠mb:=l9 g rfl;have i8:l.length≤vc∧vc≤maxLen:=by
  obtain⟨a',c',hv,h1,h2,_⟩:=zl ho;injection hv with e1 e2 e3
  subst e3;exact⟨h1,h2⟩
 obtain⟨l0,f4⟩:=i8;unfold maxLen at f4;have m6:Hid (R.togL (R.baseC st.cms) st.cms l=R.togF (R.baseC st.cms) st.cms (l[0]'a1) (R.treeC st.cms (l[0]'a1)) (l.drop 1)):=by
  show _=_;subst f7;rfl
 clear l9 ho f7 x0 r0;refine z7 hP a8 fun T d=> ?_
 have k7:RI N O B mb st bv cv LB LCm ((re w T d).alloc (.cells #[.pointer (some ⟨B,0,none⟩),.map (some mb)] 152)):=(hR.re T d).keptM (zf.of_below ((j0g _ _).alloc (j0a _) _));have i0:zf w ((re w T d).alloc (.cells #[.pointer (some ⟨B,0,none⟩),.map (some mb)] 152)):=((zf.refl w).re T d).alloc _;have k9:(re w T d).heap.size<((re w T d).alloc (.cells #[.pointer (some ⟨B,0,none⟩),.map (some mb)] 152)).heap.size:=by simp
 have i6:(re w T d).heap.size≠mb:=fun e=>by have:mb<w.heap.size:=hR.lt mb hR.mem;have e' :w.heap.size=mb:=e;omega
 have l3:g<((re w T d).alloc (.cells #[.pointer (some ⟨B,0,none⟩),.map (some mb)] 152)).heap.size:=j0b l5 i0.size;have b6:Hid (KR (re w T d).heap.size B mb g l ((re w T d).alloc (.cells #[.pointer (some ⟨B,0,none⟩),.map (some mb)] 152))):=⟨by simp,by simp,fun j hj=>(i0.cell (p:=⟨g,j,none⟩) l5).trans (l4 j hj)⟩
 have a7:=z6 k7;have a6:=z6 i0;clear k7 i0 hR l4;generalize re w T d=W at*;go_wp2;generalize W.alloc (.cells #[.pointer (some ⟨B,0,none⟩),.map (some mb)] 152)=Wa at*;generalize W.heap.size=bx at*;refine z7 hP a8 fun T d=> ?_
 have HR:=z6 (a7.out.re T d);have HK:=z6 (a6.out.re T d);have HS:=z6 (b6.out.re T d);have c7 :bx<(re Wa T d).heap.size:=k9;have d5 :g<(re Wa T d).heap.size:=l3;clear a7 a6 b6 k9 l3;generalize re Wa T d=W1 at*;have q0:((l.length:Int)==0)=false:=beq_eq_false_iff_ne.2 (by omega);go_wp2;have a3:∀(w:World) T d,KR bx B mb g l w→KR bx B mb g l (re w T d):=fun w T d h=>h.re T d
 refine zw hP ?_;refine Vb hP (by kernel_rfl) a8.thenT (KR bx B mb g l) a3 ?_;simp only[sE,mC,mS,sF,iX];co_applyP zh (i:=0) a8.thenT a3 rfl (by kernel_rfl) (by kernel_rfl) (by kernel_rfl) (by rfl)
 case hv=>
  intro W' hS K hK;obtain⟨s0,s1,s2⟩:=hS;clear s2;go_simp
  exact hK
 case hS=>exact HS.out
 try walk_nrm
 co_applyP zh (i:=1) a8.thenT a3 rfl (by kernel_rfl) (by kernel_rfl) (by kernel_rfl) (by rfl)
 case hv=>
  intro W' hS K hK;obtain⟨s0,s1,s2⟩:=hS;clear s2;go_simp
  exact hK
 case hS=>exact HS.out
 try walk_nrm
 co_applyP zh (i:=2) a8.thenT a3 rfl (by kernel_rfl) (by kernel_rfl) (by kernel_rfl) (by rfl)
 case hv=>
  intro W' hS K hK;obtain⟨s0,s1,s2⟩:=hS;clear s2;go_simp
  exact hK
 case hS=>exact HS.out
 try walk_nrm
 co_applyP zh (i:=3) a8.thenT a3 rfl (by kernel_rfl) (by kernel_rfl) (by kernel_rfl) (by rfl)
 case hv=>
  intro W' hS K hK;obtain⟨s0,s1,s2⟩:=hS;clear s2;go_simp
  exact hK
 case hS=>exact HS.out
 try walk_nrm
 co_applyP zh (i:=4) a8.thenT a3 rfl (by kernel_rfl) (by kernel_rfl) (by kernel_rfl) (by rfl)
 case hv=>
  intro W' hS K hK;obtain⟨s0,s1,s2⟩:=hS;have s3:=s2 0 a1;go_simp
  exact hK
 case hS=>exact HS.out
 try walk_nrm
 have m9:=hl _ (j0c a1);refine Y7 (i:=5) (by kernel_rfl) rfl (by rfl) rfl (by simp[Act.eval]) Tryz.func52 (by decide) rfl (Fs hi HR.out (l[0]'a1) m9.2) ?_;rintro v2 W2 ⟨⟨m0,m1,rfl,f8⟩,hk⟩;have k3:=z6 (HR.out.keptM hk);have j5:=z6 (HK.out.trans hk);have g9:=z6 (HS.out.keptX (hk.x mb) c7 i6 d5 j1);have c6:=z6 f8;have f0:bx<W2.heap.size:=j0b c7 hk.size;have f5:g<W2.heap.size:=j0b d5 hk.size;clear HR HK HS f8 hk c7 d5;refine⟨g9.out,?_⟩;try walk_nrm
 co_applyP zh (i:=6) a8.thenT a3 rfl (by kernel_rfl) (by kernel_rfl) (by kernel_rfl) (by rfl)
 case hv=>
  intro W' hS K hK;obtain⟨s0,s1,s2⟩:=hS;clear s2;go_simp
  exact hK
 case hS=>exact g9.out
 try walk_nrm
 refine YF (by kernel_rfl) ?_ _;simp only[Exit.then];refine zw hP ?_;refine z7 hP a8.thenT fun T d=> ?_
 have HR:=z6 (k3.out.re T d);have HK:=z6 (j5.out.re T d);have HS:=z6 (g9.out.re T d);have j9:Hid (PT (re W2 T d) N (.slice m0 (R.treeC st.cms (l[0]'a1)).length m1) (R.treeC st.cms (l[0]'a1))):=c6.out;have f3:bx<(re W2 T d).heap.size:=f0;have f6:g<(re W2 T d).heap.size:=f5;clear k3 j5 g9 c6 f0 f5;generalize re W2 T d=W3 at*;have q1:(1:Int)≤(l.length:Int):=by omega
 go_wp2
 all_goals
  have n7:2≤l.length→(if vc=1 then some (⟨g,0,none⟩:Addr)else some ⟨g,1,none⟩)=some ⟨g,1,none⟩:=fun h2=>if_neg (by omega)
  refine yd hP ?_;refine jd hP (C8 N O B mb st bv cv LB LCm w bx g l) (fun a _=>l.length-BF a) ?_ ?_
  ·refine⟨0,R.treeC st.cms (l[0]'a1),m0,m1,_,_,_,_,_,_,_,_,_,_,_,_,_,_,_,_,_,_,_,_,_,_,_,_,_,_,_,_,_,_,_,_,_,_,_,_,_,_,_,_,_,_,_,_,_,_,_,_,rfl,a1,fun h2=> ?_,?_,ZH hi.trees _,j9.out,HR.out,HK.out.x mb,HS.out,f3,f6⟩
   ·first
     |rfl
     |(exfalso;omega)
   ·rw[m6.out,iJ,j0d a1];rfl
  clear j9 HR HK HS f3 f6;rintro a0 W4 ⟨k,tk,ta,tc,c1,sa,sc,u7,u8,u9,n8,n9,o3,o4,o5,o6,o7,o8,o9,p0,p3,p4,p5,p6,p7,p8,p9,q4,q5,q6,q7,q8,q9,r1,r2,r3,r4,r5,r6,r7,r8,r9,s4,s5,s6,s7,s8,s9,t1,t2,t3,t4,rfl,n6,j2,g3,l7,f8,l8,l6,g2,c8,d6⟩;have a4:∀(n0:Nat) (c:Code),ReC (Exit.then (fun a' w' =>C8 N O B mb st bv cv LB LCm w bx g l a' w' ∧l.length-BF a' <n0) (Exit.inBlock 0 (Exit.then (wpT rJ 152 c (zZ rJ IX (yH N O B mb st bv cv LB LCm w (R.togL (R.baseC st.cms) st.cms l)))) (zZ rJ IX (yH N O B mb st bv cv LB LCm w (R.togL (R.baseC st.cms) st.cms l)))))):=fun n0 c=>a8.thenT.inBlock.thenM fun a w T d ⟨h1,h6⟩=>⟨h1.re T d,h6⟩
  have h0:=z6 g3;have j8:=z6 l7;have c6:=z6 f8;have g8:=z6 l8;have g5:=z6 l6;have i5:=z6 g2;clear g3 l7 f8 l8 l6 g2;by_cases a2:k+1<l.length
  ·first
    |(exfalso;omega)
    |skip
   all_goals
    obtain rfl:=j2 (by omega);have m8:(k:Int)<((l.length-1:Nat):Int):=by omega
    refine z7 hP (a4 _ _) fun T d=> ?_
    have a7:=z6 (g8.out.re T d);have a6:=z6 (g5.out.re T d);have b6:=z6 (i5.out.re T d);have b5:Hid (PT (re W4 T d) N (.slice ta tk.length tc) tk):=c6.out;have b2:bx<(re W4 T d).heap.size:=c8;have b3:g<(re W4 T d).heap.size:=d6;clear g8 g5 i5 c6 c8 d6;generalize re W4 T d=W5 at*;go_wp2;refine zw hP ?_;refine Y8 (t:=true) hP (by simp[Act.eval]) ?_;simp only[if_true];refine jb hP ?_;simp only[Exit.then];refine zw hP ?_;refine yd hP ?_;refine z7 hP (a4 _ _).thenT.inBlock fun T d=> ?_
    have i4:=z6 (a7.out.re T d);have j7:=z6 (a6.out.re T d);have b7:=z6 (b6.out.re T d);have k2:Hid (PT (re W5 T d) N (.slice ta tk.length tc) tk):=b5.out;have d4:bx<(re W5 T d).heap.size:=b2;have d9:g<(re W5 T d).heap.size:=b3;clear a7 a6 b6 b5 b2 b3;generalize re W5 T d=W6 at*;have s3:W6.cell? ⟨g,1+k,none⟩=some (.int .i64 (l[k+1]:Int)):=by
     rw[Nat.add_comm 1 k];exact b7.out.2.2 (k+1) a2
    go_wp2;clear s3;have b4:k<l.length:=by omega
    refine zw hP ?_;refine Vb hP (by kernel_rfl) (a4 _ _).thenT.inBlock.thenT (KR bx B mb g l) a3 ?_;simp only[sE,mC,mS,sF,iX];co_applyP zh (i:=0) (a4 _ _).thenT.inBlock.thenT a3 rfl (by kernel_rfl) (by kernel_rfl) (by kernel_rfl) (by rfl)
    case hv=>
     intro W' hS K hK;obtain⟨s0,s1,s2⟩:=hS;clear s2;go_simp
     exact hK
    case hS=>exact b7.out
    try walk_nrm
    co_applyP zh (i:=1) (a4 _ _).thenT.inBlock.thenT a3 rfl (by kernel_rfl) (by kernel_rfl) (by kernel_rfl) (by rfl)
    case hv=>
     intro W' hS K hK;obtain⟨s0,s1,s2⟩:=hS;clear s2;go_simp
     exact hK
    case hS=>exact b7.out
    try walk_nrm
    co_applyP zh (i:=2) (a4 _ _).thenT.inBlock.thenT a3 rfl (by kernel_rfl) (by kernel_rfl) (by kernel_rfl) (by rfl)
    case hv=>
     intro W' hS K hK;obtain⟨s0,s1,s2⟩:=hS;clear s2;go_simp
     exact hK
    case hS=>exact b7.out
    try walk_nrm
    co_applyP zh (i:=3) (a4 _ _).thenT.inBlock.thenT a3 rfl (by kernel_rfl) (by kernel_rfl) (by kernel_rfl) (by rfl)
    case hv=>
     intro W' hS K hK;obtain⟨s0,s1,s2⟩:=hS;clear s2;go_simp
     exact hK
    case hS=>exact b7.out
    try walk_nrm
    co_applyP zh (i:=4) (a4 _ _).thenT.inBlock.thenT a3 rfl (by kernel_rfl) (by kernel_rfl) (by kernel_rfl) (by rfl)
    case hv=>
     intro W' hS K hK;obtain⟨s0,s1,s2⟩:=hS;have s3:=s2 k b4;go_simp
     exact hK
    case hS=>exact b7.out
    try walk_nrm
    co_applyP zh (i:=5) (a4 _ _).thenT.inBlock.thenT a3 rfl (by kernel_rfl) (by kernel_rfl) (by kernel_rfl) (by rfl)
    case hv=>
     intro W' hS K hK;obtain⟨s0,s1,s2⟩:=hS;clear s2;go_simp
     exact hK
    case hS=>exact b7.out
    try walk_nrm
    refine Y7 (i:=6) (by kernel_rfl) rfl (by rfl) rfl (by simp[Act.eval]) IZ (by decide) rfl (b8.out W6 (l[k]'b4) (l[k+1]'a2) i4.out (j0c b4) (j0c a2) (by omega)) ?_;rintro v7 W7 ⟨tb,m2,rfl,f9,g1,a9⟩;have g6:=z6 g1;have g4:=z6 (j7.out.trans a9);have b1:=z6 (b7.out.keptX a9 d4 i6 d9 j1);have i3:=z6 (k2.out.keptX a9 i4.out.mem);have i1:=z6 f9;have c9:bx<W7.heap.size:=j0b d4 a9.size;have d7:g<W7.heap.size:=j0b d9 a9.size;clear i4 j7 b7 k2 f9 g1 a9 d4 d9;refine⟨b1.out,?_⟩;try walk_nrm
    co_applyP zh (i:=7) (a4 _ _).thenT.inBlock.thenT a3 rfl (by kernel_rfl) (by kernel_rfl) (by kernel_rfl) (by rfl)
    case hv=>
     intro W' hS K hK;obtain⟨s0,s1,s2⟩:=hS;clear s2;go_simp
     exact hK
    case hS=>exact b1.out
    try walk_nrm
    co_applyP zh (i:=8) (a4 _ _).thenT.inBlock.thenT a3 rfl (by kernel_rfl) (by kernel_rfl) (by kernel_rfl) (by rfl)
    case hv=>
     intro W' hS K hK;obtain⟨s0,s1,s2⟩:=hS;clear s2;go_simp
     exact hK
    case hS=>exact b1.out
    try walk_nrm
    co_applyP zh (i:=9) (a4 _ _).thenT.inBlock.thenT a3 rfl (by kernel_rfl) (by kernel_rfl) (by kernel_rfl) (by rfl)
    case hv=>
     intro W' hS K hK;obtain⟨s0,s1,s2⟩:=hS;clear s2;go_simp
     exact hK
    case hS=>exact b1.out
    try walk_nrm
    co_applyP zh (i:=10) (a4 _ _).thenT.inBlock.thenT a3 rfl (by kernel_rfl) (by kernel_rfl) (by kernel_rfl) (by rfl)
    case hv=>
     intro W' hS K hK;obtain⟨s0,s1,s2⟩:=hS;clear s2;go_simp
     exact hK
    case hS=>exact b1.out
    try walk_nrm
    co_applyP zh (i:=11) (a4 _ _).thenT.inBlock.thenT a3 rfl (by kernel_rfl) (by kernel_rfl) (by kernel_rfl) (by rfl)
    case hv=>
     intro W' hS K hK;obtain⟨s0,s1,s2⟩:=hS;clear s2;go_simp
     exact hK
    case hS=>exact b1.out
    try walk_nrm
    refine YF (by kernel_rfl) ?_ _;simp only[Exit.then];have n4:=hl _ (j0c a2);have b9:Hid (R.togL (R.baseC st.cms) st.cms l=if(R.baseC st.cms (l[k]'b4) (l[k+1]'a2)).2≠0 then([],(R.baseC st.cms (l[k]'b4) (l[k+1]'a2)).2)else if(R.joinT (R.baseC st.cms (l[k]'b4) (l[k+1]'a2)).1 tk (R.treeC st.cms (l[k+1]'a2))).2≠0 then([],(R.joinT (R.baseC st.cms (l[k]'b4) (l[k+1]'a2)).1 tk (R.treeC st.cms (l[k+1]'a2))).2)else R.togF (R.baseC st.cms) st.cms (l[k+1]'a2) (R.joinT (R.baseC st.cms (l[k]'b4) (l[k+1]'a2)).1 tk (R.treeC st.cms (l[k+1]'a2))).1 (l.drop (k+1+1))):=by
     show _=_;rw[h0.out,iJ,j0d b4,List.drop_eq_getElem_cons a2,R.togF];rfl
    have e9:=z6 (Qm hi.trees (l[k]'b4) (l[k+1]'a2));have m4:Hid (l.getD (k+1) 0=l[k+1]'a2):=by show _=_;rw[iJ,j0d a2];rfl
    clear h0;generalize R.baseC st.cms (l[k]'b4) (l[k+1]'a2)=rb at*;generalize l[k+1]'a2=n2 at*;by_cases he:rb.2=0
    ·have q2:(rb.2 !=0)=false:=by simp[he]
     refine zg hP (a4 _ _).thenT.inBlock fun T d=> ?_
     have g7:=z6 (g6.out.re T d);have j6:=z6 (g4.out.re T d);have k5:=z6 (b1.out.re T d);have k1:Hid (PT (re W7 T d) N (.slice ta tk.length tc) tk):=i3.out;have j3:Hid (PT (re W7 T d) N (.slice tb rb.1.length m2) rb.1):=i1.out;have x0:(re W7 T d).cell? ⟨bx,0,none⟩=some (.pointer (some ⟨B,0,none⟩)):=b1.out.1;have x1:(re W7 T d).cell? ⟨bx,1,none⟩=some (.map (some mb)):=b1.out.2.1;have d3:bx<(re W7 T d).heap.size:=c9;have d8:g<(re W7 T d).heap.size:=d7;clear g6 g4 b1 i3 i1 c9 d7;generalize re W7 T d=W8 at*;have k6:=z6 (Ye g7.out.ps n2 n4.2 i9);go_wp2_with fail
     refine k6.out.mono ?_;rintro e W9 ⟨tt,n5,rfl,e6,rfl⟩;rw[kp]at e6⊢;have j4:=z6 (Og tb ta tt m2 tc n5 rb.1 tk (R.treeC st.cms n2) W9 N g7.out.lt j3.out k1.out e6 e9.out j8.out (ZH hi.trees n2));clear k6 e6;go_wp2_with fail
     refine j4.out.mono ?_;rintro e Wa ⟨tj,m3,rfl,g0,k8⟩;have e7:=zf.of_below k8;have a7:=z6 (g7.out.keptM e7);have a6:=z6 (j6.out.trans (e7.x mb));have b6:=z6 (k5.out.keptX (e7.x mb) d3 i6 d8 j1);have b5:=z6 g0;have i2:=z6 (VQ e9.out j8.out (ZH hi.trees n2));have b2:bx<Wa.heap.size:=j0b d3 e7.size;have b3:g<Wa.heap.size:=j0b d8 e7.size;clear g7 j6 k5 k1 j3 j4 g0 k8 e7 d3 d8 x0 x1;generalize R.joinT rb.1 tk (R.treeC st.cms n2)=rj at*;by_cases hj:rj.2=0
     ·have q3:(rj.2 !=0)=false:=by simp[hj]
      rw[if_neg (by simp[he]),if_neg (by simp[hj])]at b9;clear he hj;go_wp2;refine zg hP (a4 _ _) fun T d=> ?_
      have HR:=z6 (a7.out.re T d);have HK:=z6 (a6.out.re T d);have HS:=z6 (b6.out.re T d);have m5:Hid (PT (re Wa T d) N (.slice tj rj.1.length m3) rj.1):=b5.out;have i7:bx<(re Wa T d).heap.size:=b2;have j0:g<(re Wa T d).heap.size:=b3;clear a7 a6 b6 b5 b2 b3;generalize re Wa T d=Wb at*;go_wp2;refine⟨⟨k+1,rj.1,tj,m3,c1,_,sc,_,_,_,_,_,_,_,_,_,_,_,_,_,_,_,_,_,_,_,_,_,_,_,_,_,_,_,_,_,_,_,_,_,_,_,_,_,_,_,_,_,_,_,_,_,rfl,a2,fun _=>rfl,?_,i2.out,m5.out,HR.out,HK.out,HS.out,i7,j0⟩,?_⟩
      ·rw[b9.out,m4.out]
      ·simp[BF,intOf];omega
     ·have q3:(rj.2 !=0)=true:=by simp[hj]
      rw[if_neg (by simp[he]),if_pos (by simp[hj])]at b9;have a5:Hid (yH N O B mb st bv cv LB LCm w (R.togL (R.baseC st.cms) st.cms l) (.tuple #[.slice none 0 0,.int .i64 rj.2]) Wa):=by
       show yH _ _ _ _ _ _ _ _ _ _ _ _ _;rw[b9.out];exact⟨none,0,rfl,⟨[],rfl,⟨none,0,rfl,j0a _,by unfold maxLen;omega,fun h=>absurd h (EL _)⟩,fun q hq=>by cases hq⟩,a7.out,a6.out⟩
      clear he hj b9 a7 a6 b6 b5;go_wp2;refine⟨rfl,_,fun W=> ?_,a5.out⟩;simp[results,IY,go_sem]
    ·have q2:(rb.2 !=0)=true:=by simp[he]
     rw[if_pos (by simp[he])]at b9;refine zg hP (a4 _ _).thenT.inBlock fun T d=> ?_
     have a5:Hid (yH N O B mb st bv cv LB LCm w (R.togL (R.baseC st.cms) st.cms l) (.tuple #[.slice none 0 0,.int .i64 rb.2]) (re W7 T d)):=by
      show yH _ _ _ _ _ _ _ _ _ _ _ _ _;rw[b9.out];exact⟨none,0,rfl,⟨[],rfl,⟨none,0,rfl,j0a _,by unfold maxLen;omega,fun h=>absurd h (EL _)⟩,fun q hq=>by cases hq⟩,g6.out.re T d,g4.out.re T d⟩
     clear he b9 g6 g4 b1 i3 i1 c9 d7;generalize re W7 T d=W8 at*;go_wp2;refine⟨rfl,_,fun W=> ?_,a5.out⟩;simp[results,IY,go_sem]
  ·have m8:¬(k:Int)<((l.length-1:Nat):Int):=by omega
   have k4:Hid (R.togL (R.baseC st.cms) st.cms l=(tk,0)):=by
    show _=_;rw[h0.out,List.drop_eq_nil_of_le (by omega),R.togF]
   refine zg hP (a4 _ _) fun T d=> ?_
   have a7:=z6 (g8.out.re T d);have a6:=z6 (g5.out.re T d);have b5:Hid (PT (re W4 T d) N (.slice ta tk.length tc) tk):=c6.out;clear g8 g5 i5 c6 c8 d6 h0;generalize re W4 T d=W5 at*;go_wp2;refine zg hP a8 fun T d=> ?_
   have a5:Hid (yH N O B mb st bv cv LB LCm w (R.togL (R.baseC st.cms) st.cms l) (.tuple #[.slice ta tk.length tc,.int .i64 0]) (re W5 T d)):=by
    show yH _ _ _ _ _ _ _ _ _ _ _ _ _;rw[k4.out];exact⟨ta,tc,rfl,b5.out,a7.out.re T d,a6.out.re T d⟩
   clear a7 a6 b5 k4;generalize re W5 T d=W6 at*;go_wp2;refine⟨rfl,_,fun W=> ?_,a5.out⟩;simp[results,IY,go_sem]
end
theorem Jq {w:World}{base:Nat}{e:TypeId}{size:Nat}{v:Value}{n:Nat}{xs:List Value}(h:w.ownsRow base e size v n xs):w.ownsRow 0 e size v n xs:=by
 obtain⟨h1,h2⟩:=h;refine⟨h1,?_⟩;rcases h2 with h2|⟨g,cap,a0,e1,_,e3⟩
 ·exact .inl h2
 ·exact .inr ⟨g,cap,a0,e1,Nat.zero_le _,e3⟩
theorem cp (cms:List R.Cm)(a b:Nat):(R.latC cms a b).length≤cms.length:=by
 unfold R.latC;refine j0f (List.length_filter_le _ _) ?_;rw[List.length_range'];exact j0a _
theorem Cl {N O:Nat→Prop}{B mb:Nat}{st:R.St}{bv cv:Value}{LB:List BrP}{LCm:List (R.Cm×Value×Value)}(hi:Inv st)(a:Nat):1≤a→a≤st.cms.length→∀b,1≤b→b≤st.cms.length→∀w,RI N O B mb st bv cv LB LCm w→
  zO rJ 103 #[.agg #[.pointer (some ⟨B,0,none⟩),.map (some mb)],.int .i64 (a:Int),.int .i64 (b:Int)] w (yH N O B mb st bv cv LB LCm w (R.baseC st.cms a b)):=by
 induction a using Nat.strongRecOn with
 |_ a ih=>
  intro a4 a1 b a5 a6 w hR;refine Co hi hR a4 a1 a5 a6 fun W v a3 hN=> ?_
  obtain⟨⟨va,vc,rfl⟩,ho,hk⟩:=hN;have hl:∀x∈R.latC st.cms a b,1≤x∧x≤st.cms.length:=fun x hx=>by
   have:=(jO a b x).1 hx;exact⟨this.1,this.2.1⟩
  have a0:=j0f (cp st.cms a b) hi.few;refine gm hi a3 (R.latC st.cms a b) va vc hl a0 (Jq ho) (fun g hg=> ?_) fun W' x y a2 hx hy h2=> ?_
  ·have h1:=(ho.lt g hg).1
   have h2:=hR.lt mb hR.mem;omega
  ·have a7:x<a:=by
    cases hc:R.latC st.cms a b with
    |nil=>rw[hc]at hx;cases hx
    |cons p q=>
     cases q with
     |nil=>rw[hc]at h2;simp at h2
     |cons p2 q2=>exact Gz hi.wf a1 hc x (by rw[←hc];exact hx)
   exact ih x a7 (hl x hx).1 (hl x hx).2 y (hl y hy).1 (hl y hy).2 W' a2
def C7 (M:Nat→Prop)(W:World)(r:List R.Leaf×Int)(v:Value)(W' :World):Prop:=∃ta tc,v= .tuple #[.slice ta r.1.length tc,.int .i64 r.2]∧PT W' M (.slice ta r.1.length tc) r.1∧zf W W'
theorem oF (W:World):(Instr.makeMap 150 none).run rJ W= .ok (.map (some W.heap.size)) (W.alloc (.map #[] 0)):=by
 unfold Instr.makeMap;simp[newObj,Sem.run]
theorem Jx (W:World):(W.alloc (.map #[] 0)).heap[W.heap.size]? =some (.map #[] 0):=heap_alloc_new W _
section
theorem Gk {M O:Nat→Prop}{B:Nat}{st:R.St}{bv cv:Value}{LB:List BrP}{LCm:List (R.Cm×Value×Value)}{w:World}(hi:Inv st)(hx:PSx w M O B st bv cv LB LCm)(hM:∀b,M b→b<w.heap.size){a b:Nat}(b4:1≤a)(b5:a≤st.cms.length)(b6:1≤b)(b7:b≤st.cms.length):
  zO rJ 64 #[.pointer (some ⟨B,0,none⟩),.int .i64 (a:Int),.int .i64 (b:Int)] w (C7 M w (R.baseC st.cms a b)):=by
 have hP:=xT;refine zS hP L0 rfl ?_;have a5:ReC (zZ rJ Tryz.f64 (C7 M w (R.baseC st.cms a b))):=ReC.body fun v w' T d ⟨ta,tc,h1,h2,h3⟩=>⟨ta,tc,h1,h2,h3.re T d⟩
 simp only[Tryz.ntmps64,sE,mC,mS,sF,sG,sH,sI,sJ,sL,mJ,lN];refine z7 hP a5 fun T d=> ?_
 have HX:=z6 (hx.re T d);have HK:=z6 ((zf.refl w).re T d);have b1:∀b,M b→b<(re w T d).heap.size:=hM
 generalize re w T d=W at*;go_wp2;refine z7 hP a5 fun T d=> ?_
 have a2:=z6 (HX.out.re T d);have a3:=z6 (HK.out.re T d);have b3:∀b,M b→b<(re W T d).heap.size:=b1
 clear HX HK b1 hx;generalize re W T d=W1 at*;have c6:=oF W1;have a9:Hid (∀o:Obj,RI (fun b=>M b∨b=W1.heap.size) O B W1.heap.size st bv cv LB LCm ((W1.alloc (.map #[] 0)).alloc o)):=fun o=>by
  have b8:Below W1.heap.size W1 ((W1.alloc (.map #[] 0)).alloc o):=((j0g _ _).alloc (j0a _) _).alloc (by simp) _;refine⟨a2.out.kept (Z:=fun _=>False) (ze.of_below b8) (fun _ e=>e.elim) (fun b hb=> ?_) (fun b hb=> .inl (a2.out.sub b hb)),fun b hb=> ?_,.inr rfl,fun e=>by have:=a2.out.lt _ e;omega,[],⟨#[],0,?_,rfl,fun p hp=>by cases hp⟩,fun p hp=>by cases hp⟩
  ·rcases hb with hb|hb
   ·exact .inl hb
   ·exact .inr (by omega)
  ·rcases hb with hb|hb
   ·have:=b3 b hb;simp;omega
   ·simp;omega
  ·rw[heap_alloc_old (W1.alloc (.map #[] 0)) o (by simp)]
   exact Jx W1
 have a7:Hid (∀o:Obj,zf w ((W1.alloc (.map #[] 0)).alloc o)):=fun o=>(a3.out.alloc _).alloc _
 have c8:=a3.out.size;go_wp2;clear c6;refine zw hP ?_;refine zN hP 3 a5.thenT rfl rfl rfl IZ (by decide) rfl fun T d=> ?_
 have a8:=z6 ((a9.out (.cells #[.pointer (some ⟨B,0,none⟩),.map (some W1.heap.size)] 152)).re T d);have a0:=z6 ((a7.out (.cells #[.pointer (some ⟨B,0,none⟩),.map (some W1.heap.size)] 152)).re T d);have x0:(re ((W1.alloc (.map #[] 0)).alloc (.cells #[.pointer (some ⟨B,0,none⟩),.map (some W1.heap.size)] 152)) T d).cell? ⟨W1.heap.size+1,0,none⟩=some (.pointer (some ⟨B,0,none⟩)):=by
  show((W1.alloc (.map #[] 0)).alloc (.cells #[.pointer (some ⟨B,0,none⟩),.map (some W1.heap.size)] 152)).cell? ⟨W1.heap.size+1,0,none⟩=_;simp[go_sem]
 have x1:(re ((W1.alloc (.map #[] 0)).alloc (.cells #[.pointer (some ⟨B,0,none⟩),.map (some W1.heap.size)] 152)) T d).cell? ⟨W1.heap.size+1,1,none⟩=some (.map (some W1.heap.size)):=by
  show((W1.alloc (.map #[] 0)).alloc (.cells #[.pointer (some ⟨B,0,none⟩),.map (some W1.heap.size)] 152)).cell? ⟨W1.heap.size+1,1,none⟩=_;simp[go_sem]
 clear a9 a7 a2 a3;generalize re ((W1.alloc (.map #[] 0)).alloc (.cells #[.pointer (some ⟨B,0,none⟩),.map (some W1.heap.size)] 152)) T d=W2 at*;generalize W1.heap.size=mb at*;simp only[IP,IQ,IR,IS];go_wp2;refine⟨_,_,by simp[Act.eval],Cl hi a b4 b5 b b6 b7 W2 a8.out,?_⟩;rintro v W3 ⟨ta,tc,rfl,b2,c7,a1⟩ T d;have a4:Hid (C7 M w (R.baseC st.cms a b) (.tuple #[.slice ta (R.baseC st.cms a b).1.length tc,.int .i64 (R.baseC st.cms a b).2]) (re W3 T d)):=by
  have a6 :PT W3 M (.slice ta (R.baseC st.cms a b).1.length tc) (R.baseC st.cms a b).1:=PT.step b2 (ze.refl (fun _=>False) W3) (fun _ e=>e.elim) (fun b hb=> .inl (.inl hb));refine⟨ta,tc,rfl,a6,?_⟩;have b9:zf w W3:=⟨a1.os.trans a0.out.os,a1.output.trans a0.out.output,j0f a0.out.size a1.size,fun k hk=>(a1.block k (j0b hk a0.out.size) (by omega)).trans (a0.out.block k hk)⟩
  exact b9.re T d
 clear b2 c7 a1 a8 a0 x0 x1;generalize re W3 T d=W4 at*;generalize R.baseC st.cms a b=rb at*;go_wp2;refine qa hP ?_;refine⟨rfl,_,fun W=> ?_,a4.out⟩;simp[results,Tryz.results64,go_sem]
end
def Fh (w:World)(r:List UInt8×Int)(v:Value)(w' :World):Prop:=v= .tuple #[.string ⟨r.1.toArray⟩,.int .i64 r.2]∧zf w w'
theorem Zy.keptM {w w' :World}(h:Zy w)(hk:zf w w'):Zy w' :=by
 have:=(h.below hk.below).re w'.tape w'.drawn;exact this
section
theorem bW {M O:Nat→Prop}{B:Nat}{st:R.St}{w:World}(hi:Inv st)(h:PS w M O B st)(hM:∀b,M b→b<w.heap.size)(hG:Zy w)(a b:Int):
  zO rJ 35 #[.pointer (some ⟨B,0,none⟩),.int .i64 a,.int .i64 b] w (Fh w (R.baseAt st a b)):=by
 have hP:=xT;have c7:=hi.few;refine zS hP Tryz.func35 rfl ?_;have a4:ReC (zZ rJ Tryz.f35 (Fh w (R.baseAt st a b))):=ReC.body fun v w' T d ⟨h1,h2⟩=>⟨h1,h2.re T d⟩
 simp only[Tryz.ntmps35,sE,mC,mS,sF,sG,sH,sI,sJ,sL,mJ,lN];by_cases ha:1≤a∧a≤(st.cms.length:Int)
 ·by_cases hb:1≤b∧b≤(st.cms.length:Int)
  ·obtain⟨an,rfl⟩:∃an:Nat,a=(an:Int):=⟨a.toNat,by omega⟩
   obtain⟨bn,rfl⟩:∃bn:Nat,b=(bn:Int):=⟨b.toNat,by omega⟩
   have HD:Hid (R.baseAt st (an:Int) (bn:Int)=if(R.baseC st.cms an bn).2≠0 then([],(R.baseC st.cms an bn).2)else(R.Written (R.baseC st.cms an bn).1,0)):=by
    show _=_;rw[R.baseAt,if_neg (by omega)];rfl
   refine z7 hP a4 fun T d=> ?_
   have HS:=z6 (h.re T d);have HK:=z6 ((zf.refl w).re T d);generalize re w T d=W at*;go_wp2;refine z7 hP a4 fun T d=> ?_
   have b4:=z6 (HS.out.re T d);have b1:=z6 (HK.out.re T d);have a1:=ZV (HS.out.re T d) (an:Int);have a2:=ZV (HS.out.re T d) (bn:Int);rw[decide_eq_true ha]at a1;rw[decide_eq_true hb]at a2;have a3:=z6 a1;have a5:=z6 a2;clear HS HK a1 a2;generalize re W T d=W1 at*;go_wp2_with fail
   refine a3.out.mono ?_;rintro e W2 ⟨rfl,rfl⟩;go_wp2_with fail
   refine a5.out.mono ?_;rintro e W3 ⟨rfl,rfl⟩;go_wp2;clear a3 a5;refine zw hP ?_;refine zN hP 3 a4.thenT rfl rfl rfl L0 (by decide) rfl fun T d=> ?_
   have a7:=z6 (b1.out.re T d);have c6:=b4.out.re T d;obtain⟨bv,cv,LB,LCm,b9⟩:=c6;have b5:=z6 b9;clear b4 b1 b9;generalize re W3 T d=W4 at*;simp only[IP,IQ,IR,IS];go_wp2;refine⟨_,_,by simp[Act.eval],Gk hi b5.out (fun k hk=>j0b (hM k hk) a7.out.size) (a:=an) (b:=bn) (by omega) (by omega) (by omega) (by omega),?_⟩;rintro v W5 ⟨ta,tc,rfl,b8,b7⟩ T d;have a8:=z6 ((a7.out.trans b7).re T d);have b3:Hid (PT (re W5 T d) M (.slice ta (R.baseC st.cms an bn).1.length tc) (R.baseC st.cms an bn).1):=b8;have b2:=z6 (Qm hi.trees an bn);clear b8 b7 b5 a7;generalize re W5 T d=W6 at*;generalize R.baseC st.cms an bn=rb at*;go_wp2;refine zg hP a4 fun T d=> ?_
   have a6:=z6 (a8.out.re T d);have a9:=z6 (Yz (.slice ta rb.1.length tc) rb.1 (re W6 T d) M b3.out b2.out.ok (by have:=b2.out.few;omega) (hG.keptM (a8.out.re T d)));clear a8 b3;generalize re W6 T d=W7 at*;by_cases he:rb.2=0
   ·have q:(rb.2 !=0)=false:=by simp[he]
    rw[if_neg (by simp[he])]at HD;clear he;go_wp2_with fail
    refine a9.out.mono ?_;rintro e W8 ⟨rfl,b6⟩;have a0:Hid (Fh w (R.baseAt st (an:Int) (bn:Int)) (.tuple #[.string ⟨(R.Written rb.1).toArray⟩,.int .i64 0]) W8):=⟨by rw[HD.out],a6.out.trans (zf.of_below b6)⟩
    clear a9 a6 b6;go_wp2;refine⟨rfl,_,fun W=> ?_,a0.out⟩;simp[results,L1,go_sem]
   ·have q:(rb.2 !=0)=true:=by simp[he]
    rw[if_pos (by simp[he])]at HD;have a0:Hid (Fh w (R.baseAt st (an:Int) (bn:Int)) (.tuple #[.string ⟨#[]⟩,.int .i64 rb.2]) W7):=⟨by rw[HD.out],a6.out⟩
    clear he a9 a6;go_wp2;refine⟨rfl,_,fun W=> ?_,a0.out⟩;simp[results,L1,go_sem]
  ·have HD:Hid (R.baseAt st a b=([],10)):=by show _=_;rw[R.baseAt,if_pos (by omega)]
   refine zg hP a4 fun T d=> ?_
   have a1:=ZV (h.re T d) a;have a2:=ZV (h.re T d) b;rw[decide_eq_true ha]at a1;rw[decide_eq_false hb]at a2;have a3:=z6 a1;have a5:=z6 a2;have a0:Hid (Fh w (R.baseAt st a b) (.tuple #[.string ⟨#[]⟩,.int .i64 10]) (re w T d)):=⟨by rw[HD.out],(zf.refl w).re T d⟩
   clear a1 a2 h hG hM;generalize re w T d=W at*;go_wp2_with fail
   refine a3.out.mono ?_;rintro e W2 ⟨rfl,rfl⟩;go_wp2_with fail
   refine a5.out.mono ?_;rintro e W3 ⟨rfl,rfl⟩;go_wp2;refine⟨rfl,_,fun W=> ?_,a0.out⟩;simp[results,L1,go_sem]
 ·have HD:Hid (R.baseAt st a b=([],10)):=by show _=_;rw[R.baseAt,if_pos (by omega)]
  refine zg hP a4 fun T d=> ?_
  have a1:=ZV (h.re T d) a;rw[decide_eq_false ha]at a1;have a3:=z6 a1;have a0:Hid (Fh w (R.baseAt st a b) (.tuple #[.string ⟨#[]⟩,.int .i64 10]) (re w T d)):=⟨by rw[HD.out],(zf.refl w).re T d⟩
  clear a1 h hG hM;generalize re w T d=W at*;go_wp2_with fail
  refine a3.out.mono ?_;rintro e W2 ⟨rfl,rfl⟩;go_wp2;refine⟨rfl,_,fun W=> ?_,a0.out⟩;simp[results,L1,go_sem]
end
structure BM (O:Nat→Prop)(w w' :World):Prop where
 os:w'.os=w.os
 output:w'.output=w.output
 size:w.heap.size≤w'.heap.size
 block:∀k,k<w.heap.size→¬O k→w'.heap[k]? =w.heap[k]?
def ZT (w w' :World)(M O:Nat→Prop)(B:Nat)(st' :R.St):Prop:=∃O',PS w' (fun b=>M b∨O' b) O' B st' ∧BM O w w' ∧(∀b,O' b→O b∨w.heap.size≤b)
theorem ZT.re {w w' :World}{M O:Nat→Prop}{B:Nat}{st:R.St}(h:ZT w w' M O B st)(T:Nat→Question→Nat)(d:Nat):ZT w (Go.Proofs.YtolgebdmffcemaaGreatDoor.re w' T d) M O B st:=by
 obtain⟨O',h1,h2,h3⟩:=h;exact⟨O',h1.re T d,⟨h2.os,h2.output,h2.size,h2.block⟩,h3⟩
theorem ZT.of {w w1 w' :World}{M O:Nat→Prop}{B:Nat}{st:R.St}(k:zf w w1)(h:zv w1 w' M O B st):ZT w w' M O B st:=by
 obtain⟨O',h1,h2,h3⟩:=h;refine⟨O',h1,⟨h2.os.trans k.os,h2.output.trans k.output,j0f k.size h2.size,fun b hb hn=>(h2.block b (j0b hb k.size) hn).trans (k.block b hb)⟩,fun b hb=> ?_⟩;rcases h3 b hb with h|h
 ·exact .inl h
 ·exact .inr (j0f k.size h)
theorem ZT.same {w w' :World}{M O:Nat→Prop}{B:Nat}{st:R.St}{bv cv:Value}{LB:List BrP}{LCm:List (R.Cm×Value×Value)}(h:PSx w M O B st bv cv LB LCm)(k:zf w w'):ZT w w' M O B st:=by
 refine ZT.of k ?_;have:=zv.same (w:=w') ⟨_,_,_,_,h.keptM k⟩ (j0g _ _);exact this
def yA (w:World)(M O:Nat→Prop)(B:Nat)(r:(Int×Int)×R.St)(v:Value)(w' :World):Prop:=v= .tuple #[.int .i64 r.1.1,.int .i64 r.1.2]∧ZT w w' M O B r.2
theorem ct (st:R.St)(name:List UInt8)(a n:Nat)(h:(R.joinC st.cms a n).2=0):R.joinN st name a n=Zd st name {tree:=(R.joinC st.cms a n).1,parents:=[a,n]}:=by
 unfold R.joinN;rw[if_neg (by simp[h])];rfl
section
theorem bV {M O:Nat→Prop}{B:Nat}{st:R.St}{bv cv:Value}{LB:List BrP}{LCm:List (R.Cm×Value×Value)}{w:World}(hi:Inv st)(hx:PSx w M O B st bv cv LB LCm)(hM:∀b,M b→b<w.heap.size)(hG:Zy w)(h6:∀b,O b→6≤b)(f4:st.packed.length≤100000000000)
  (name:List UInt8)(hf:R.fnd st.brs name<st.brs.length)(hl:R.fnd st.brs name<LB.length)(a n:Nat)(hh:(LB[R.fnd st.brs name]'hl).1.head=a)(e6:1≤a)(b8:a≤st.cms.length)(e7:1≤n)(c8:n≤st.cms.length):
  zO rJ 49 #[.pointer (some ⟨B,0,none⟩),.pointer (some ⟨(LB[R.fnd st.brs name]'hl).2.1,0,none⟩),.int .i64 (n:Int)] w (yA w M O B (R.joinN st name a n)):=by
 have hP:=xT;have a8:=hi.few;refine zS hP Tryz.func49 rfl ?_;have b7:ReC (zZ rJ Tryz.f49 (yA w M O B (R.joinN st name a n))):=ReC.body fun v w' T d ⟨h1,h2⟩=>⟨h1,h2.re T d⟩
 simp only[Tryz.ntmps49,sE,mC,mS,sF,sG,sH,sI,sJ,sL,mJ,lN];have b3:Hid (∀W:World,PSx W M O B st bv cv LB LCm→W.cell? ⟨(LB[R.fnd st.brs name]'hl).2.1,1,none⟩=some (.int .i64 (a:Int))):=fun W hW=>by
  have:=(hW.at_ _ (j0c hl)).c1;rw[hh]at this;exact this
 have a2:Hid (∀(W:World) (c:R.Cm) (pa:Option Addr) (pc:Nat) (ta:Option Addr) (tn tc:Nat),zf w W→PSx W M O B st bv cv LB LCm→PT W M (.slice ta tn tc) c.tree→Rd W M (.slice pa c.parents.length pc) c.parents.length (Xa c.parents)→OkT c.tree→(∀p∈c.parents,1≤p∧p≤st.cms.length)→c.parents.length≤2→
   Calls rJ 58 #[.pointer (some ⟨B,0,none⟩),.pointer (some ⟨(LB[R.fnd st.brs name]'hl).2.1,0,none⟩),.agg #[.slice pa c.parents.length pc,.slice ta tn tc]] W fun e w' =>e= .returned (.tuple #[.int .i64 (Zd st name c).1.1,.int .i64 (Zd st name c).1.2])∧zv W w' M O B (Zd st name c).2):=fun W c pa pc ta tn tc hk hW h1 h2 h3 h4 h5=>ut hW hi name hf hl c pa pc ta tn tc h1 h2 (fun b hb=>j0b (hM b hb) hk.size) h3 h4 h5 f4 (hG.keptM hk) h6
 generalize(LB[R.fnd st.brs name]'hl).2.1=bb at*;clear hh;refine z7 hP b7 fun T d=> ?_
 have HX:=z6 (hx.re T d);have HK:=z6 ((zf.refl w).re T d);generalize re w T d=W at*;go_wp2;refine zw hP ?_;refine zN hP 6 b7.thenT rfl rfl rfl L0 (by decide) rfl fun T d=> ?_
 have b2:=z6 (HX.out.re T d);have b4:=z6 (HK.out.re T d);clear HX HK;generalize re W T d=W1 at*;have x1:=b3.out W1 b2.out;simp only[IP,IQ,IR,IS];go_wp2;refine⟨_,_,by simp[Act.eval],Gk hi b2.out (fun k hk=>j0b (hM k hk) b4.out.size) (a:=a) (b:=n) e6 b8 e7 c8,?_⟩;rintro v W2 ⟨tb,d4,rfl,e9,c7⟩ T d;have d9:=z6 ((b4.out.trans c7).re T d);have e3:=z6 ((b2.out.keptM c7).re T d);have d5:Hid (PT (re W2 T d) M (.slice tb (R.baseC st.cms a n).1.length d4) (R.baseC st.cms a n).1):=e9;have a5:=z6 (Qm hi.trees a n);clear e9 c7 b2 b4 x1;generalize re W2 T d=W3 at*;have a1:Hid (R.joinC st.cms a n=if(R.baseC st.cms a n).2≠0 then([],(R.baseC st.cms a n).2)else R.joinT (R.baseC st.cms a n).1 (R.treeC st.cms a) (R.treeC st.cms n)):=rfl;have a9:=z6 (ct st name a n);have a3:Hid ((R.joinC st.cms a n).2≠0→R.joinN st name a n=((0,(R.joinC st.cms a n).2),st)):=fun h=>by unfold R.joinN;rw[if_pos h]
 generalize R.baseC st.cms a n=rb at*;go_wp2;refine zg hP b7 fun T d=> ?_
 have b1:=z6 (d9.out.re T d);have a7:=z6 (e3.out.re T d);have d6:Hid (PT (re W3 T d) M (.slice tb rb.1.length d4) rb.1):=d5.out;clear d9 e3 d5;generalize re W3 T d=W4 at*;by_cases he:rb.2=0
 ·have q:(rb.2 !=0)=false:=by simp[he]
  rw[if_neg (by simp[he])]at a1;clear he;have x1:=b3.out W4 a7.out;have e1:=z6 (Ye a7.out a b8 a8);have e2:=z6 (Ye a7.out n c8 a8);go_wp2_with fail
  refine e1.out.mono ?_;rintro e W5 ⟨t1,c1,rfl,c9,rfl⟩;rw[kp]at c9⊢;go_wp2_with fail
  refine e2.out.mono ?_;rintro e W6 ⟨t2,c2,rfl,d3,rfl⟩;rw[kp]at d3⊢;have d8:=z6 (Og tb t1 t2 d4 c1 c2 rb.1 (R.treeC st.cms a) (R.treeC st.cms n) W6 M (fun b hb=>j0b (hM b hb) b1.out.size) d6.out c9 d3 a5.out (ZH hi.trees a) (ZH hi.trees n));clear e1 e2 c9 d3;go_wp2_with fail
  refine d8.out.mono ?_;rintro e W7 ⟨tj,f5,rfl,e8,b9⟩;have a4:=z6 (b1.out.trans (zf.of_below b9));have b6:=z6 (a7.out.below b9);have b5:=z6 e8;have a6:=z6 (VQ a5.out (ZH hi.trees a) (ZH hi.trees n));clear d8 e8 b9 b1 a7 d6 x1;rw[←a1.out]at b5 a6⊢;by_cases hj:(R.joinC st.cms a n).2=0
  ·have q3:((R.joinC st.cms a n).2 !=0)=false:=by simp[hj]
   have d7:=z6 (a9.out hj);clear hj a1 a3 a9;generalize R.joinC st.cms a n=rj at*;have x1:=b3.out W7 b6.out;have HA:=z6 (fun(W:World) pa pc hk hX hp hr=>a2.out W {tree:=rj.1,parents:=[a,n]} pa pc tj rj.1.length f5 hk hX hp hr a6.out (fun p hp=>by
    simp only[List.mem_cons,List.not_mem_nil,or_false]at hp;rcases hp with rfl|rfl
    ·exact⟨e6,b8⟩
    ·exact⟨e7,c8⟩) (by simp))
   go_wp2_with fail
   have c6:Below W7.heap.size W7 (W7.alloc (.cells #[.int .i64 (a:Int),.int .i64 (n:Int)] 3)):=(j0g _ _).alloc (j0a _) _;have f0:Rd (W7.alloc (.cells #[.int .i64 (a:Int),.int .i64 (n:Int)] 3)) M (.slice (some ⟨W7.heap.size,0,none⟩) 2 2) 2 (Xa [a,n]):=⟨_,2,rfl,j0a _,by unfold maxLen;omega,fun _=>⟨W7.heap.size,0,rfl,by simp,fun hm=>by have:=hM _ hm;have:=a4.out.size;omega,fun j u hu=>by
    match j,hu with
    |0,hu=>simp[Xa]at hu;subst hu;simp
    |1,hu=>simp[Xa]at hu;subst hu;simp
    |j+2,hu=>simp[Xa]at hu⟩⟩
   refine(HA.out _ (some ⟨W7.heap.size,0,none⟩) 2 (a4.out.alloc _) (b6.out.below c6) (b5.out.below c6) f0).mono ?_;rintro e W8 ⟨rfl,f3⟩;have a0:Hid (yA w M O B (R.joinN st name a n) (.tuple #[.int .i64 (Zd st name {tree:=rj.1,parents:=[a,n]}).1.1,.int .i64 (Zd st name {tree:=rj.1,parents:=[a,n]}).1.2]) W8):=by
    show yA _ _ _ _ _ _ _;rw[d7.out];exact⟨rfl,ZT.of (a4.out.alloc _) f3⟩
   clear c6 f0 f3 HA a2 b6 a4 b5 d7 x1;generalize Zd st name {tree:=rj.1,parents:=[a,n]}=ad at*;go_wp2;refine⟨rfl,_,fun W=> ?_,a0.out⟩;simp[results,L2,go_sem]
  ·have q3:((R.joinC st.cms a n).2 !=0)=true:=by simp[hj]
   have a0:Hid (yA w M O B (R.joinN st name a n) (.tuple #[.int .i64 0,.int .i64 (R.joinC st.cms a n).2]) W7):=by
    show yA _ _ _ _ _ _ _;rw[a3.out hj];exact⟨rfl,ZT.same hx a4.out⟩
   clear hj a1 a3 a9;generalize R.joinC st.cms a n=rj at*;go_wp2;refine⟨rfl,_,fun W=> ?_,a0.out⟩;simp[results,L2,go_sem]
 ·have q:(rb.2 !=0)=true:=by simp[he]
  rw[if_pos (by simp[he])]at a1;have a0:Hid (yA w M O B (R.joinN st name a n) (.tuple #[.int .i64 0,.int .i64 rb.2]) W4):=by
   show yA _ _ _ _ _ _ _;rw[a3.out (by rw[a1.out];exact he),a1.out];exact⟨rfl,ZT.same hx b1.out⟩
  clear he a1 a3 a9;go_wp2;refine⟨rfl,_,fun W=> ?_,a0.out⟩;simp[results,L2,go_sem]
end
