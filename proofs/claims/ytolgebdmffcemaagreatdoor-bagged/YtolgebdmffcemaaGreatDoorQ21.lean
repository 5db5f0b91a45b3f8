import Derived.Test.YtolgebdmffcemaaGreatDoorQ14
import Derived.Test.YtolgebdmffcemaaGreatDoorQ11
set_option linter.all false
set_option maxHeartbeats 20000000
set_option maxRecDepth 1000000
namespace Go.Proofs.YtolgebdmffcemaaGreatDoor
open Go.RowKit
def CA (c n:Int):Int:=if c<0 then(-(c+1)) % n else c % n
namespace R
def bit (x i:Nat):Bool:=decide (x/2^i % 2=1)
def bagN:List UInt8:=[98,97,103]
def bgItem (i:Nat):List UInt8:=[UInt8.ofNat (97+i)]
def bgPut (x:Nat)(st:St)(i:Nat):St:=if bit x i then(change st 42 [97] bagN 0 (bgItem i)).2 else st
def bgTurn (name:List UInt8)(x:Nat)(st:St)(i:Nat):St:=if bit x i then(change st 42 name bagN 0 (bgItem i)).2 else(change st 45 name bagN 0 (bgItem i)).2
def bg0:St:={cms:=[],brs:=[],packed:=[]}
def bg1:St:=(change (made bg0 [97] [] false).2 35 [97] [110] 1 []).2
def bg2 (f:Nat):St:=(List.range 5).foldl (bgPut f) bg1
def bg3 (f:Nat):St:=(made (commit (bg2 f) [97]).2 [98] [97] true).2
def f5 (name:List UInt8)(x:Nat)(st:St):St:=(commit ((List.range 5).foldl (bgTurn name x) (change st 35 name name 1 []).2) name).2
def bg4 (f x:Nat):St:=f5 [97] x (bg3 f)
def bg5 (f x y:Nat):St:=f5 [98] y (bg4 f x)
def Yb (f x y:Nat):List (List UInt8):=((List.range 5).filter fun i=>(bit x i&&bit y i)||((bit x i||bit y i)&& !bit f i)).map bgItem
def bgList (x:Nat):List (List UInt8):=((List.range 5).filter fun i=>bit x i).map bgItem
def bgT (f x y:Nat):List (List UInt8):=if x=y then bgList x else if x=f then bgList y else if y=f then bgList x else if x=0 then bgList y else if y=0 then bgList x else Yb f x y
def bgW (l:List (List UInt8)):List UInt8:=[97,32,35,49,10,98,32,35,49,10]++((if l=[]then []else bagN++ [32,42]++joinI l++ [10])++ [110,32,35,49,10])
def CC (f x y:Nat):Bool:=decide ((joinB (bg5 f x y) [97] [98]).1.2=0)&&decide (shown (joinB (bg5 f x y) [97] [98]).2 [97]=(bgW (bgT f x y),0))
end R
def Qk (name:List UInt8)(x:Nat)(st:R.St):R.St:=(List.range 5).foldl (R.bgTurn name x) (R.change st 35 name name 1 []).2
structure Cc (f x y:Nat):Prop where
 c1:(R.commit (R.bg2 f) [97]).1=(1,0)
 d1:(R.made (R.commit (R.bg2 f) [97]).2 [98] [97] true).1=0
 e4:(R.commit (Qk [97] x (R.bg3 f)) [97]).1=(2,0)
 e5:(R.commit (Qk [98] y (R.bg4 f x)) [98]).1=(3,0)
 j:(R.joinB (R.bg5 f x y) [97] [98]).1=(4,0)
 s:R.shown (R.joinB (R.bg5 f x y) [97] [98]).2 [97]=(R.bgW (R.bgT f x y),0)
namespace R
def Gv (a b:Leaf):Bool:=decide (a.path=b.path)&&(decide (a.kind=b.kind)&&(decide (a.n=b.n)&&(decide (a.text=b.text)&&decide (a.items=b.items))))
def Q8:List Leaf→List Leaf→Bool
 |[],[]=>true
 |a::r,b::s=>Gv a b&&Q8 r s
 |_,_=>false
theorem Gu {a b:Leaf}(h:Gv a b=true):a=b:=by
 cases a;cases b
 simp[Gv]at h;obtain⟨rfl,rfl,rfl,rfl,rfl⟩:=h;rfl
theorem Yl:∀{s t:List Leaf},Q8 s t=true→s=t
 |[],[],_=>rfl
 |a::r,b::s,h=>by
  simp only[Q8,Bool.and_eq_true]at h;rw[Gu h.1,Yl h.2]
def KV (l:List (List UInt8)):Leaf:={path:=bagN,kind:=42,n:=0,text:=[],items:=l}
def ZQ (p:List UInt8):Leaf:={path:=p,kind:=35,n:=1,text:=[],items:=[]}
def oT (l:List (List UInt8)):List Leaf:=if l=[]then []else [KV l]
def tN (l:List (List UInt8)):List Leaf:=oT l++ [ZQ [110]]
def tA (l:List (List UInt8)):List Leaf:=ZQ [97]::tN l
def tB (l:List (List UInt8)):List Leaf:=ZQ [98]::tN l
def tAB (l:List (List UInt8)):List Leaf:=ZQ [97]::ZQ [98]::tN l
def chT (kind:Int)(t:List Leaf)(path:List UInt8)(n:Int)(text:List UInt8):List Leaf:=
 if(valV kind t (at_ t path) path n text).1=0 then set t (valV kind t (at_ t path) path n text).2 else t
theorem gB (cms:List Cm)(h:Nat)(t:List Leaf)(pk:List UInt8)(kind:Int)(p:List UInt8)(n:Int)(text:List UInt8)(hp:isPath p=true):
  (change {cms:=cms,brs:=[{name:=[97],head:=h,work:=t}],packed:=pk} kind [97] p n text).2={cms:=cms,brs:=[{name:=[97],head:=h,work:=chT kind t p n text}],packed:=pk}:=by
 have e1:fndI [({name:=[97],head:=h,work:=t}:Br)] [97]=0:=rfl;have e2:workOf {cms:=cms,brs:=[{name:=[97],head:=h,work:=t}],packed:=pk} [97]=t:=rfl;unfold change chT;rw[e1,if_neg (by decide),hp,if_neg (by decide),e2];split<;>rfl
theorem VF (cms:List Cm)(h g:Nat)(t u:List Leaf)(pk:List UInt8)(kind:Int)(p:List UInt8)(n:Int)(text:List UInt8)(hp:isPath p=true):
  (change {cms:=cms,brs:=[{name:=[97],head:=h,work:=t},{name:=[98],head:=g,work:=u}],packed:=pk} kind [97] p n text).2={cms:=cms,brs:=[{name:=[97],head:=h,work:=chT kind t p n text},{name:=[98],head:=g,work:=u}],packed:=pk}:=by
 have e1:fndI [({name:=[97],head:=h,work:=t}:Br),{name:=[98],head:=g,work:=u}] [97]=0:=rfl;have e2:workOf {cms:=cms,brs:=[{name:=[97],head:=h,work:=t},{name:=[98],head:=g,work:=u}],packed:=pk} [97]=t:=rfl;unfold change chT;rw[e1,if_neg (by decide),hp,if_neg (by decide),e2];split<;>rfl
theorem VE (cms:List Cm)(h g:Nat)(t u:List Leaf)(pk:List UInt8)(kind:Int)(p:List UInt8)(n:Int)(text:List UInt8)(hp:isPath p=true):
  (change {cms:=cms,brs:=[{name:=[97],head:=h,work:=t},{name:=[98],head:=g,work:=u}],packed:=pk} kind [98] p n text).2={cms:=cms,brs:=[{name:=[97],head:=h,work:=t},{name:=[98],head:=g,work:=chT kind u p n text}],packed:=pk}:=by
 have e1:fndI [({name:=[97],head:=h,work:=t}:Br),{name:=[98],head:=g,work:=u}] [98]=1:=rfl;have e2:workOf {cms:=cms,brs:=[{name:=[97],head:=h,work:=t},{name:=[98],head:=g,work:=u}],packed:=pk} [98]=u:=rfl;unfold change chT;rw[e1,if_neg (by decide),hp,if_neg (by decide),e2];split<;>rfl
def OQ (m i:Nat):Nat:=if bit m i then m else m+2^i
def O3 (m i:Nat):Nat:=if bit m i then m-2^i else m
def JX (x m i:Nat):Nat:=if bit x i then OQ m i else O3 m i
def Gf (x m i:Nat):Nat:=if bit x i then OQ m i else m
theorem jf:∀m<32,∀x<32,(List.range 5).foldl (JX x) m=x:=by decide+kernel
theorem OP:∀x<32,(List.range 5).foldl (Gf x) 0=x:=by decide+kernel
theorem J7:∀m<32,∀i<5,OQ m i<32:=by decide+kernel
theorem ua:∀m<32,∀i<5,O3 m i<32:=by decide+kernel
theorem Ck:∀m<32,∀i<5,Q8 (chT 42 (tN (bgList m)) bagN 0 (bgItem i)) (tN (bgList (OQ m i)))=true:=by decide+kernel
theorem Cn:∀m<32,∀i<5,Q8 (chT 42 (tA (bgList m)) bagN 0 (bgItem i)) (tA (bgList (OQ m i)))=true:=by decide+kernel
theorem Cl:∀m<32,∀i<5,Q8 (chT 42 (tB (bgList m)) bagN 0 (bgItem i)) (tB (bgList (OQ m i)))=true:=by decide+kernel
theorem cT:∀m<32,∀i<5,Q8 (chT 45 (tA (bgList m)) bagN 0 (bgItem i)) (tA (bgList (O3 m i)))=true:=by decide+kernel
theorem cS:∀m<32,∀i<5,Q8 (chT 45 (tB (bgList m)) bagN 0 (bgItem i)) (tB (bgList (O3 m i)))=true:=by decide+kernel
theorem Cx:∀m<32,Q8 (chT 35 (tN (bgList m)) [97] 1 []) (tA (bgList m))=true:=by decide+kernel
theorem Cw:∀m<32,Q8 (chT 35 (tN (bgList m)) [98] 1 []) (tB (bgList m))=true:=by decide+kernel
theorem ql:isPath bagN=true:=by decide+kernel
theorem FT:isPath [97]=true:=by decide+kernel
theorem zFS:isPath [98]=true:=by decide+kernel
theorem XL {α:Type}(g:α→Nat→α)(S:Nat→α)(M:Nat→Nat→Nat)(N:Nat)(hs:∀m<32,∀i<N,g (S m) i=S (M m i)∧M m i<32)(m:Nat)(hm:m<32):∀k≤N,(List.range k).foldl g (S m)=S ((List.range k).foldl M m)∧(List.range k).foldl M m<32
 |0,_=>⟨rfl,hm⟩
 |k+1,hk=>by
  obtain⟨h1,h2⟩:=XL g S M N hs m hm k (by omega);rw[List.range_succ,List.foldl_append,List.foldl_append,h1];exact hs _ h2 k (by omega)
def s2 (m:Nat):St:={cms:=[],brs:=[{name:=[97],head:=0,work:=tN (bgList m)}],packed:=bg1.packed}
theorem cx:bg1=s2 0:=by
 have h:bg1={cms:=[],brs:=[{name:=[97],head:=0,work:=chT 35 [] [110] 1 []}],packed:=bg1.packed}:=rfl;rw[h];rfl
theorem cw {f:Nat}(hf:f<32):bg2 f=s2 f:=by
 unfold bg2;rw[cx,(XL (bgPut f) s2 (Gf f) 5 (fun m hm i hi=> ?_) 0 (by decide) 5 (j0a _)).1,OP f hf];unfold bgPut Gf;split
 ·refine⟨?_,J7 m hm i hi⟩
  unfold s2;rw[gB _ _ _ _ _ _ _ _ ql,Yl (Ck m hm i hi)]
 ·exact⟨rfl,hm⟩
end R
namespace R
def y6 (l:List (List UInt8)):Leaf:=if l=[]then none bagN else KV l
theorem cI:∀f<4,∀x<32,∀y<32,bagJ (bgList (0+f)) (bgList x) (bgList y)=Yb (0+f) x y:=by decide+kernel
theorem cH:∀f<4,∀x<32,∀y<32,bagJ (bgList (4+f)) (bgList x) (bgList y)=Yb (4+f) x y:=by decide+kernel
theorem cG:∀f<4,∀x<32,∀y<32,bagJ (bgList (8+f)) (bgList x) (bgList y)=Yb (8+f) x y:=by decide+kernel
theorem cE:∀f<4,∀x<32,∀y<32,bagJ (bgList (12+f)) (bgList x) (bgList y)=Yb (12+f) x y:=by decide+kernel
theorem cD:∀f<4,∀x<32,∀y<32,bagJ (bgList (16+f)) (bgList x) (bgList y)=Yb (16+f) x y:=by decide+kernel
theorem cC:∀f<4,∀x<32,∀y<32,bagJ (bgList (20+f)) (bgList x) (bgList y)=Yb (20+f) x y:=by decide+kernel
theorem cz:∀f<4,∀x<32,∀y<32,bagJ (bgList (24+f)) (bgList x) (bgList y)=Yb (24+f) x y:=by decide+kernel
theorem cy:∀f<4,∀x<32,∀y<32,bagJ (bgList (28+f)) (bgList x) (bgList y)=Yb (28+f) x y:=by decide+kernel
theorem gJ (f x y:Nat)(hf:f<32)(hx:x<32)(hy:y<32):bagJ (bgList f) (bgList x) (bgList y)=Yb f x y:=by
 have e:f=4*(f/4)+f % 4:=by omega
 have hr:f % 4<4:=by omega
 rcases(by omega:f/4=0∨f/4=1∨f/4=2∨f/4=3∨f/4=4∨f/4=5∨f/4=6∨f/4=7)with h|h|h|h|h|h|h|h<;>rw[h]at e<;>rw[e]
 ·exact cI _ hr x hx y hy
 ·exact cH _ hr x hx y hy
 ·exact cG _ hr x hx y hy
 ·exact cE _ hr x hx y hy
 ·exact cD _ hr x hx y hy
 ·exact cC _ hr x hx y hy
 ·exact cz _ hr x hx y hy
 ·exact cy _ hr x hx y hy
theorem f6:∀f<32,∀x<32,same (y6 (bgList f)) (y6 (bgList x))=decide (f=x):=by decide+kernel
theorem f7:∀x<32,(y6 (bgList x)).kind=if x=0 then 0 else 42:=by decide+kernel
theorem JC:∀x<32,(y6 (bgList x)).items=bgList x∧baseI (y6 (bgList x)) 42=bgList x:=by decide+kernel
theorem ct:∀x<32,(y6 (bgList x)).path=bagN:=by decide+kernel
end R
namespace R
theorem oR (f x y:Nat):(Yb f x y).length≤5:=by
 unfold Yb;rw[List.length_map];exact j0f (List.length_filter_le ..) (by simp)
theorem Fe (l:List (List UInt8))(h:l.length≤5):bagV bagN l=(y6 l,0):=by
 unfold bagV y6 KV none;rw[if_neg (by omega)];split
 ·rename_i e;rw[e]
 ·rfl
theorem cu (f x y:Nat)(hf:f<32)(hx:x<32)(hy:y<32):joinedV (y6 (bgList f)) (y6 (bgList x)) (y6 (bgList y))=(y6 (bgT f x y),0):=by
 unfold joinedV bgT;rw[f6 x hx f hf,f6 y hy f hf,f7 x hx,f7 y hy,(JC x hx).1,(JC y hy).1,ct x hx];by_cases h1:x=f
 ·subst h1
  simp;split
  ·rename_i e;rw[e]
  ·rfl
 ·by_cases h2:y=f
  ·subst h2
   simp[h1]
  ·by_cases h3:x=0
   ·subst h3
    simp[h1,h2];split
    ·rename_i e;rw[e]
    ·rfl
   ·by_cases h4:y=0
    ·subst h4
     simp[h1,h2,h3]
    ·simp[h1,h2,h3,h4]
     rw[(JC f hf).2,gJ f x y hf hx hy,Fe _ (oR f x y)];split
     ·rename_i e
      subst e;exact congrArg (fun l=>(y6 l,(0:Int))) (by unfold Yb bgList;congr 2;funext i;cases bit x i<;>simp)
     ·rfl
theorem OL (a:Leaf):same a a=true:=by
 unfold same;split<;>simp
theorem xI (l:List (List UInt8)):oT l=[]∧l=[]∨oT l=[KV l]∧l≠ []:=by
 unfold oT;by_cases h:l=[]
 ·exact .inl ⟨if_pos h,h⟩
 ·exact .inr ⟨if_neg h,h⟩
theorem oU (a:List Leaf)(l:List (List UInt8))(h:a=[]∨a=[ZQ [97]]∨a=[ZQ [98]]):at_ (a++tN l) bagN=y6 l:=by
 unfold tN y6;rcases xI l with⟨e,e2⟩|⟨e,e2⟩
 ·rw[e,if_pos e2]
  rcases h with rfl|rfl|rfl<;>rfl
 ·rw[e,if_neg e2]
  rcases h with rfl|rfl|rfl<;>rfl
theorem JE (a:List Leaf)(l:List (List UInt8))(p:List UInt8)(h:(a=[]∨a=[ZQ [97]]∨a=[ZQ [98]]))(hp:p=[97]∨p=[98]∨p=[110]):at_ (a++tN l) p=at_ (a++ [ZQ [110]]) p:=by
 unfold tN;rcases xI l with⟨e,e2⟩|⟨e,e2⟩
 ·rw[e];rfl
 ·rw[e]
  rcases h with rfl|rfl|rfl<;>rcases hp with rfl|rfl|rfl<;>rfl
theorem Fg (a b c:List (List UInt8)):allP (tN a) (tA b) (tB c)=[[97],[98]]++((if a=[]∧b=[]∧c=[]then []else [bagN])++ [[110]]):=by
 unfold tA tB tN;rcases xI a with⟨e1,f1⟩|⟨e1,f1⟩<;>rcases xI b with⟨e2,f2⟩|⟨e2,f2⟩<;>rcases xI c with⟨e3,f3⟩|⟨e3,f3⟩<;>rw[e1,e2,e3]
 ·rw[if_pos ⟨f1,f2,f3⟩];rfl
 all_goals
  rw[if_neg (fun h=>by first|exact f1 h.1|exact f2 h.2.1|exact f3 h.2.2)];rfl
theorem FA (a b c:List (List UInt8)):valJ (tN a) (tA b) (tB c) [97]=(ZQ [97],0):=by
 unfold valJ;rw[show tN a=[]++tN a from rfl,show tA b=[ZQ [97]]++tN b from rfl,show tB c=[ZQ [98]]++tN c from rfl,JE _ _ _ (.inl rfl) (.inl rfl),JE _ _ _ (.inr (.inl rfl)) (.inl rfl),JE _ _ _ (.inr (.inr rfl)) (.inl rfl)];rfl
theorem Fz (a b c:List (List UInt8)):valJ (tN a) (tA b) (tB c) [98]=(ZQ [98],0):=by
 unfold valJ;rw[show tN a=[]++tN a from rfl,show tA b=[ZQ [97]]++tN b from rfl,show tB c=[ZQ [98]]++tN c from rfl,JE _ _ _ (.inl rfl) (.inr (.inl rfl)),JE _ _ _ (.inr (.inl rfl)) (.inr (.inl rfl)),JE _ _ _ (.inr (.inr rfl)) (.inr (.inl rfl))];rfl
theorem Fy (a b c:List (List UInt8)):valJ (tN a) (tA b) (tB c) [110]=(ZQ [110],0):=by
 unfold valJ;rw[show tN a=[]++tN a from rfl,show tA b=[ZQ [97]]++tN b from rfl,show tB c=[ZQ [98]]++tN c from rfl,JE _ _ _ (.inl rfl) (.inr (.inr rfl)),JE _ _ _ (.inr (.inl rfl)) (.inr (.inr rfl)),JE _ _ _ (.inr (.inr rfl)) (.inr (.inr rfl))];have e1:at_ ([]++ [ZQ [110]]) [110]=ZQ [110]:=rfl;have e2:at_ ([ZQ [97]]++ [ZQ [110]]) [110]=ZQ [110]:=rfl;have e3:at_ ([ZQ [98]]++ [ZQ [110]]) [110]=ZQ [110]:=rfl;rw[e1,e2,e3];unfold joinedV;rw[if_pos (OL _)]
theorem gU (f x y:Nat)(hf:f<32)(hx:x<32)(hy:y<32):valJ (tN (bgList f)) (tA (bgList x)) (tB (bgList y)) bagN=(y6 (bgT f x y),0):=by
 unfold valJ;rw[show tN (bgList f)=[]++tN (bgList f)from rfl,show tA (bgList x)=[ZQ [97]]++tN (bgList x)from rfl,show tB (bgList y)=[ZQ [98]]++tN (bgList y)from rfl,oU _ _ (.inl rfl),oU _ _ (.inr (.inl rfl)),oU _ _ (.inr (.inr rfl))];exact cu f x y hf hx hy
theorem QU:∀x<32,bgList x=[]→x=0:=by decide+kernel
theorem Om (l:List (List UInt8)):endJ (tAB l)=(tAB l,0):=by
 unfold tAB tN;rcases xI l with⟨e,_⟩|⟨e,_⟩<;>rw[e]<;>rfl
theorem Fd (f x y:Nat)(hf:f<32)(hx:x<32)(hy:y<32):joinT (tN (bgList f)) (tA (bgList x)) (tB (bgList y))=(tAB (bgT f x y),0):=by
 have ha:=FA (bgList f) (bgList x) (bgList y);have hb:=Fz (bgList f) (bgList x) (bgList y);have hn:=Fy (bgList f) (bgList x) (bgList y);have hg:=gU f x y hf hx hy;have la:leafJ (tN (bgList f)) (tA (bgList x)) (tB (bgList y)) [97]=[ZQ [97]]:=by unfold leafJ;rw[ha];rfl
 have lb:leafJ (tN (bgList f)) (tA (bgList x)) (tB (bgList y)) [98]=[ZQ [98]]:=by unfold leafJ;rw[hb];rfl
 have ln:leafJ (tN (bgList f)) (tA (bgList x)) (tB (bgList y)) [110]=[ZQ [110]]:=by unfold leafJ;rw[hn];rfl
 have lg:leafJ (tN (bgList f)) (tA (bgList x)) (tB (bgList y)) bagN=oT (bgT f x y):=by
  unfold leafJ;rw[hg];unfold y6 oT;by_cases h:bgT f x y=[]
  ·rw[if_pos h,if_pos h];rfl
  ·rw[if_neg h,if_neg h];rfl
 unfold joinT;rw[Fg];by_cases h0:bgList f=[]∧bgList x=[]∧bgList y=[]
 ·rw[if_pos h0]
  have e1:=QU f hf h0.1;have e2:=QU x hx h0.2.1;have e3:=QU y hy h0.2.2;have e4:oT (bgT f x y)=[]:=by rw[e1,e2,e3];rfl
  unfold joinP errJ outJ;simp only[List.nil_append,List.cons_append,List.find?_cons,List.find?_nil,ha,hb,hn,decide_true,Bool.not_true,Option.map_none,Option.getD_none,List.flatMap_cons,List.flatMap_nil,la,lb,ln,List.append_nil];rw[if_neg (by simp),←Om];unfold tAB tN;rw[e4];rfl
 ·rw[if_neg h0]
  unfold joinP errJ outJ;simp only[List.nil_append,List.cons_append,List.find?_cons,List.find?_nil,ha,hb,hn,hg,decide_true,Bool.not_true,Option.map_none,Option.getD_none,List.flatMap_cons,List.flatMap_nil,la,lb,ln,lg,List.append_nil];rw[if_neg (by simp),←Om];rfl
end R
namespace R
theorem yS (x:Leaf)(r:List Leaf):Written (x::r)=line x++Written r:=rfl
theorem Fx (l:List (List UInt8)):∃c r,Written (tN l)=c::r∧(c=98∧(∃s,r=97::s)∨c=110):=by
 unfold tN;rcases xI l with⟨e,_⟩|⟨e,_⟩<;>rw[e]
 ·exact⟨110,_,rfl,.inr rfl⟩
 ·exact⟨98,_,rfl,.inl ⟨rfl,_,rfl⟩⟩
theorem Cg (l:List (List UInt8)):∃r,Written (tA l)=97::r:=⟨_,rfl⟩
theorem Cf (l:List (List UInt8)):∃r,Written (tB l)=98::32::r:=⟨_,rfl⟩
theorem wN0 (l:List (List UInt8)):¬Written (tN l)=Written []:=by
 obtain⟨c,r,h,_⟩:=Fx l;rw[h];intro e
 cases e
theorem wAN (l m:List (List UInt8)):¬Written (tA l)=Written (tN m):=by
 obtain⟨c,r,h,h2⟩:=Fx m;obtain⟨s,h3⟩:=Cg l;rw[h,h3];intro e;rcases h2 with⟨h2,_⟩|h2<;>rw[h2]at e<;>exact absurd (List.cons.inj e).1 (by decide)
theorem wBN (l m:List (List UInt8)):¬Written (tB l)=Written (tN m):=by
 obtain⟨c,r,h,h2⟩:=Fx m;obtain⟨s,h3⟩:=Cf l;rw[h,h3];intro e;rcases h2 with⟨h2,s2,h4⟩|h2
 ·rw[h4]at e
  exact absurd (List.cons.inj (List.cons.inj e).2).1 (by decide)
 ·rw[h2]at e
  exact absurd (List.cons.inj e).1 (by decide)
theorem VD (st:St)(name:List UInt8)(h1:¬fndI st.brs name<0)(h2:¬Written (workOf st name)=Written (treeOf st (headOf st name)))(h3:¬60≤st.cms.length):commit st name=((((st.cms.length+1:Nat):Int),0),down st name {tree:=workOf st name,parents:=parsOf (headOf st name)}):=by
 unfold commit;rw[if_neg h1,if_neg h2,if_neg h3]
def YB (cms:List Cm)(h:Nat)(t:List Leaf)(g:Nat)(u:List Leaf)(pk:List UInt8):St:={cms:=cms,brs:=[{name:=[97],head:=h,work:=t},{name:=[98],head:=g,work:=u}],packed:=pk}
def cF (f:Nat):Cm:={tree:=tN (bgList f),parents:=[]}
def cA (x:Nat):Cm:={tree:=tA (bgList x),parents:=[1]}
def cB (y:Nat):Cm:={tree:=tB (bgList y),parents:=[1]}
theorem Oo (f:Nat)(hf:f<32):(commit (bg2 f) [97]).1=(1,0)∧(made (commit (bg2 f) [97]).2 [98] [97] true).1=0∧∃pk,bg3 f=YB [cF f] 1 (tN (bgList f)) 1 (tN (bgList f)) pk:=by
 unfold bg3;rw[cw hf];have e:commit (s2 f) [97]=((1,0),down (s2 f) [97] (cF f)):=by
  exact VD _ _ (by show¬(0:Int)<0;decide) (wN0 (bgList f)) (by show¬60≤0;decide)
 rw[e];refine⟨rfl,rfl,_,rfl⟩
theorem cY (f x:Nat)(hf:f<32)(hx:x<32)(cms:List Cm)(h g:Nat)(u:List Leaf)(pk:List UInt8):Qk [97] x (YB cms h (tN (bgList f)) g u pk)=YB cms h (tA (bgList x)) g u pk:=by
 unfold Qk;have e:(change (YB cms h (tN (bgList f)) g u pk) 35 [97] [97] 1 []).2=YB cms h (tA (bgList f)) g u pk:=by
  unfold YB;rw[VF _ _ _ _ _ _ _ _ _ _ FT,Yl (Cx f hf)]
 rw[e,(XL (bgTurn [97] x) (fun m=>YB cms h (tA (bgList m)) g u pk) (JX x) 5 (fun m hm i hi=> ?_) f hf 5 (j0a _)).1,jf f hf x hx];unfold bgTurn JX YB;split
 ·refine⟨?_,J7 m hm i hi⟩
  rw[VF _ _ _ _ _ _ _ _ _ _ ql,Yl (Cn m hm i hi)]
 ·refine⟨?_,ua m hm i hi⟩
  rw[VF _ _ _ _ _ _ _ _ _ _ ql,Yl (cT m hm i hi)]
theorem cX (f x:Nat)(hf:f<32)(hx:x<32)(cms:List Cm)(h g:Nat)(u:List Leaf)(pk:List UInt8):Qk [98] x (YB cms h u g (tN (bgList f)) pk)=YB cms h u g (tB (bgList x)) pk:=by
 unfold Qk;have e:(change (YB cms h u g (tN (bgList f)) pk) 35 [98] [98] 1 []).2=YB cms h u g (tB (bgList f)) pk:=by
  unfold YB;rw[VE _ _ _ _ _ _ _ _ _ _ zFS,Yl (Cw f hf)]
 rw[e,(XL (bgTurn [98] x) (fun m=>YB cms h u g (tB (bgList m)) pk) (JX x) 5 (fun m hm i hi=> ?_) f hf 5 (j0a _)).1,jf f hf x hx];unfold bgTurn JX YB;split
 ·refine⟨?_,J7 m hm i hi⟩
  rw[VE _ _ _ _ _ _ _ _ _ _ ql,Yl (Cl m hm i hi)]
 ·refine⟨?_,ua m hm i hi⟩
  rw[VE _ _ _ _ _ _ _ _ _ _ ql,Yl (cS m hm i hi)]
theorem On (f x:Nat)(hf:f<32)(hx:x<32):(commit (Qk [97] x (bg3 f)) [97]).1=(2,0)∧∃pk,bg4 f x=YB [cF f,cA x] 2 (tA (bgList x)) 1 (tN (bgList f)) pk:=by
 obtain⟨_,_,pk,e⟩:=Oo f hf;have e0:bg4 f x=(commit (Qk [97] x (bg3 f)) [97]).2:=rfl;rw[e0,e,cY f x hf hx];have e2:commit (YB [cF f] 1 (tA (bgList x)) 1 (tN (bgList f)) pk) [97]=((2,0),down (YB [cF f] 1 (tA (bgList x)) 1 (tN (bgList f)) pk) [97] (cA x)):=by
  exact VD _ _ (by show¬(0:Int)<0;decide) (wAN (bgList x) (bgList f)) (by show¬60≤1;decide)
 rw[e2];exact⟨rfl,_,rfl⟩
theorem Fb (f x y:Nat)(hf:f<32)(hx:x<32)(hy:y<32):(commit (Qk [98] y (bg4 f x)) [98]).1=(3,0)∧∃pk,bg5 f x y=YB [cF f,cA x,cB y] 2 (tA (bgList x)) 3 (tB (bgList y)) pk:=by
 obtain⟨_,pk,e⟩:=On f x hf hx;have e0:bg5 f x y=(commit (Qk [98] y (bg4 f x)) [98]).2:=rfl;rw[e0,e,cX f y hf hy];have e2:commit (YB [cF f,cA x] 2 (tA (bgList x)) 1 (tB (bgList y)) pk) [98]=((3,0),down (YB [cF f,cA x] 2 (tA (bgList x)) 1 (tB (bgList y)) pk) [98] (cB y)):=by
  exact VD _ _ (by show¬(1:Int)<0;decide) (wBN (bgList y) (bgList f)) (by show¬60≤2;decide)
 rw[e2];exact⟨rfl,_,rfl⟩
theorem C0:Lib.itoa 1=[49]:=by
 unfold Lib.itoa;simp[Lib.decDigits_one]
theorem cQ (l:List (List UInt8)):Written (tAB l)=bgW l:=by
 have e:∀p,line (ZQ p)=p++ [32,35,49,10]:=fun p=>by
  unfold line written ZQ;simp[C0]
 unfold tAB tN bgW;rw[yS,yS,e,e];rcases xI l with⟨h,h2⟩|⟨h,h2⟩<;>rw[h]
 ·rw[if_pos h2,List.nil_append,yS,e];rfl
 ·rw[if_neg h2,show [KV l]++ [ZQ [110]]=KV l:: [ZQ [110]]from rfl,yS,yS,e]
  simp[line,written,KV,Written]
theorem bagF (f x y:Nat)(hf:f<32)(hx:x<32)(hy:y<32):Cc f x y:=by
 obtain⟨h1,h2,_⟩:=Oo f hf;obtain⟨h3,_⟩:=On f x hf hx;obtain⟨h4,pk,e⟩:=Fb f x y hf hx hy;have eb:baseC [cF f,cA x,cB y] 2 3=(tN (bgList f),0):=rfl;have ej:joinC [cF f,cA x,cB y] 2 3=(tAB (bgT f x y),0):=by
  unfold joinC;rw[eb,if_neg (by simp)];exact Fd f x y hf hx hy
 have e2:joinB (bg5 f x y) [97] [98]=((4,0),down (YB [cF f,cA x,cB y] 2 (tA (bgList x)) 3 (tB (bgList y)) pk) [97] {tree:=tAB (bgT f x y),parents:=[2,3]}):=by
  rw[e];unfold joinB;rw[show fndI (YB [cF f,cA x,cB y] 2 (tA (bgList x)) 3 (tB (bgList y)) pk).brs [97]=0 from rfl,show fndI (YB [cF f,cA x,cB y] 2 (tA (bgList x)) 3 (tB (bgList y)) pk).brs [98]=1 from rfl,if_neg (by decide),if_neg (fun h=>h rfl)];show joinH _ [97] 2 3=_;unfold joinH;rw[if_neg (by show¬(3=0∨mark [cF f,cA x,cB y] 2 3=true);rw[show mark [cF f,cA x,cB y] 2 3=false from rfl];decide),if_neg (by show¬(2=0∨mark [cF f,cA x,cB y] 3 2=true);rw[show mark [cF f,cA x,cB y] 3 2=false from rfl];decide)];unfold joinN;rw[show(YB [cF f,cA x,cB y] 2 (tA (bgList x)) 3 (tB (bgList y)) pk).cms=[cF f,cA x,cB y]from rfl,ej,if_neg (by simp),if_neg (by show¬60≤3;decide)];rfl
 refine⟨h1,h2,h3,h4,by rw[e2],?_⟩;rw[e2];show(Written (tAB (bgT f x y)),(0:Int))=_;rw[cQ]
end R
