import Derived.Test.YtolgebdmffcemaaGreatDoorQ26
import Derived.Lib.MinMaxS
import Derived.Lib.RowBridge
import Derived.Lib.OwnBridge
set_option linter.all false
set_option maxHeartbeats 20000000
set_option maxRecDepth 1000000
open Bool renaming eq_iff_iff→sS
open Go.Proofs.Tryz renaming prog→rJ,results138→EY,func188→H5
open Nat renaming lt_irrefl→EL,zero_le→sQ
open Go.World renaming size_alloc→aL,ownsRow_nil→H3
open List renaming take_succ_eq_append_getElem→mD,flatten_append→EZ,map_append→rP,length_map→pA,length_append→mB,take_length→wN,map_map→aE,length_mergeSort→H7,mem_append→nJ,mem_singleton→iE,length_eq_zero_iff→sV,take_of_length_le→mG,replicate→rU,take_left'→I2
open Go.Lib renaming compact→pN,compact_length_le→H6,holds_of_ownsRow→H9,ownsRow_putRow→I0,below_putRow→I1
open Array renaming getElem?_append_left→H8,getElem?_modify→iV
namespace Go.Proofs.YtolgebdmffcemaaGreatDoor
open Go.RowKit
theorem gG {p:List UInt8}{x y:R.Leaf}(hx:VO p x)(hy:VO p y)(h:pk x=pk y):x.kind=y.kind:=by
 have h1:x.kind=0∨x.kind=35∨x.kind=61∨x.kind=42:=by
  by_cases e:x.kind=0
  ·exact .inl e
  ·exact .inr (hx.ok e).kinds
 have h2:y.kind=0∨y.kind=35∨y.kind=61∨y.kind=42:=by
  by_cases e:y.kind=0
  ·exact .inl e
  ·exact .inr (hy.ok e).kinds
 unfold pk at h;rcases h1 with e|e|e|e<;>rcases h2 with e' |e' |e' |e' <;>rw[e,e']at h⊢<;>simp at h
theorem ow {p:List UInt8}{x y:R.Leaf}(hx:VO p x)(hy:VO p y):Yo x y=R.same x y:=by
 rw[sS,jt hx hy];constructor
 ·intro h
  obtain⟨h1,h2,h3,h4⟩:=of_decide_eq_true h;have hk:=gG hx hy h1;have hp:x.path=y.path:=by rw[hx.path,hy.path]
  obtain⟨p1,k,n,t,it⟩:=x;obtain⟨p2,k',n',t',a0⟩:=y;simp only at hp h2 h3 h4 hk;subst hp h2 h3 h4 hk;rfl
 ·intro h
  subst h;simp[Yo]
theorem B8 {x:R.Leaf}(k:Int)(h:x.kind=k):pk x=if k=35 then 1 else if k=61 then 2 else if k=42 then 3 else 0:=by rw[pk,h]
def QU (x:R.Leaf)(iv:Value):Value:= .agg #[.int .i64 (pk x),.int .i64 x.n,.string ⟨x.text.toArray⟩,iv]
theorem fg (a b:List UInt8)(w:World)(ts:Array TypeId)(t:TypeId):(Builtin.max_ ts t #[.string ⟨a.toArray⟩,.string ⟨b.toArray⟩]).run rJ w= .ok (.string ⟨(R.later a b).toArray⟩) w:=by
 rw[Lib.run_max_strs];congr 2
 unfold Lib.maxS R.later;rw[Go.Proofs.bytesLess_eq];by_cases h:a<b
 ·simp[h]
 ·simp[h]
theorem KW {p:List UInt8}{x:R.Leaf}(hx:VO p x):pk x=0↔x.kind=0:=by
 constructor
 ·intro h
  have:=gG hx (y:=R.none p) (.inl rfl) (by rw[h];rfl);exact this
 ·intro h
  rw[B8 0 h];rfl
theorem It.nil (w:World)(M:Nat→Prop)(x:R.Leaf)(h:x.items=[]):It w M (x,.slice none x.items.length 0):=by
 unfold It;rw[h];exact⟨none,0,rfl,j0a _,by unfold maxLen;omega,fun h=>absurd h (EL _)⟩
theorem JD (x y z:R.Leaf)(xa ya za:Option Addr)(xc yc zc:Nat)(p:List UInt8)(w:World)(M:Nat→Prop)(hM:∀b,M b→b<w.heap.size)(hx:VO p x)(hy:VO p y)(hz:VO p z)
  (ix:It w M (x,.slice xa x.items.length xc))(iy:It w M (y,.slice ya y.items.length yc))(iz:It w M (z,.slice za z.items.length zc)):
  Calls rJ 138 #[QU x (.slice xa x.items.length xc),QU y (.slice ya y.items.length yc),QU z (.slice za z.items.length zc)] w fun e w' =>
   ∃ia ic,e= .returned (.tuple #[QU (R.joinedV x y z).1 (.slice ia (R.joinedV x y z).1.items.length ic),.int .i64 (R.joinedV x y z).2])∧
    It w' M ((R.joinedV x y z).1,.slice ia (R.joinedV x y z).1.items.length ic)∧Below w.heap.size w w' :=by
 unfold QU;have b2:∀W,Below w.heap.size w W→Calls rJ 132 #[.agg #[.int .i64 (pk y),.int .i64 y.n,.string ⟨y.text.toArray⟩,.slice ya y.items.length yc],.agg #[.int .i64 (pk x),.int .i64 x.n,.string ⟨x.text.toArray⟩,.slice xa x.items.length xc]] W fun e w' =>e= .returned (.bool (R.same y x))∧Below W.heap.size W w' :=fun W hW=>by
  rw[←ow hy hx];exact Uv y x ya xa yc xc W M (Rd.below iy hW) (Rd.below ix hW)
 have b5:∀W,Below w.heap.size w W→Calls rJ 132 #[.agg #[.int .i64 (pk z),.int .i64 z.n,.string ⟨z.text.toArray⟩,.slice za z.items.length zc],.agg #[.int .i64 (pk x),.int .i64 x.n,.string ⟨x.text.toArray⟩,.slice xa x.items.length xc]] W fun e w' =>e= .returned (.bool (R.same z x))∧Below W.heap.size W w' :=fun W hW=>by
  rw[←ow hz hx];exact Uv z x za xa zc xc W M (Rd.below iz hW) (Rd.below ix hW)
 have c7:∀W (N:Nat→Prop),Below w.heap.size w W→(∀b,N b→M b∨w.heap.size≤b)→It W N (x,.slice xa x.items.length xc):=fun W N hW hN=>Rd.step ix (ze.of_below (M:=fun _=>False) hW) (fun _ e=>e.elim) hN
 have c8:∀W (N:Nat→Prop),Below w.heap.size w W→(∀b,N b→M b∨w.heap.size≤b)→It W N (y,.slice ya y.items.length yc):=fun W N hW hN=>Rd.step iy (ze.of_below (M:=fun _=>False) hW) (fun _ e=>e.elim) hN
 have c9:∀W (N:Nat→Prop),Below w.heap.size w W→(∀b,N b→M b∨w.heap.size≤b)→It W N (z,.slice za z.items.length zc):=fun W N hW hN=>Rd.step iz (ze.of_below (M:=fun _=>False) hW) (fun _ e=>e.elim) hN
 have b9:=z9 b2;have c6:=z9 b5;have d5:=z9 c7;have b7:=z9 c8;have b8:=z9 c9;have HX:=z9 hx;have HY:=z9 hy;have HZ:=z9 hz;clear b2 b5 c7 c8 c9 ix iy iz hx hy hz;go_enter Tryz.func138,Tryz.ntmps138;go_wp2_with fail
 refine(b9.out _ ((((j0g _ _).alloc (j0a _) _).alloc (by simp) _).alloc (by simp;omega) _|>.alloc (by simp;omega) _)).mono ?_;rintro e w1 ⟨rfl,a4⟩;have b2:=a4.size;simp only[aL]at b2;have VX:VB w1 w.heap.size (pk x) x.n x.text (.slice xa x.items.length xc):=by
  refine VB.below ?_ a4 (by simp only[aL];omega);exact⟨by simp[go_sem],by simp[go_sem],by simp[go_sem],by simp[go_sem]⟩
 have VY:VB w1 (w.heap.size+1) (pk y) y.n y.text (.slice ya y.items.length yc):=by
  refine VB.below ?_ a4 (by simp only[aL];omega);exact⟨by simp[go_sem],by simp[go_sem],by simp[go_sem],by simp[go_sem]⟩
 have VZ:VB w1 (w.heap.size+1+1) (pk z) z.n z.text (.slice za z.items.length zc):=by
  refine VB.below ?_ a4 (by simp only[aL];omega);exact⟨by simp[go_sem],by simp[go_sem],by simp[go_sem],by simp[go_sem]⟩
 have VR:VB w1 (w.heap.size+1+1+1) 0 0 [] (.slice none 0 0):=by
  refine VB.below ?_ a4 (by simp only[aL];omega);exact⟨by simp[go_sem],by simp[go_sem],by simp[go_sem],by simp[go_sem]⟩
 have FR:∀j,w1.frozen? ⟨w.heap.size+1+1+1,j,none⟩=false:=fun j=>by rw[a4.frozen (p:=⟨w.heap.size+1+1+1,j,none⟩) (by simp only[aL];omega)];simp[go_sem]
 have a9:Hid (Below w.heap.size w w1):=((((j0g _ _).alloc (j0a _) _).alloc (by simp) _).alloc (by simp;omega) _|>.alloc (by simp;omega) _).trans (a4.mono (by simp;omega));clear a4 b9;generalize d9:w.heap.size+1=B1 at*;generalize e1:B1+1=B2 at*;generalize e2:B2+1=B3 at*;have g1:w.heap.size<B1:=by omega
 have g2:B1<B2:=by omega
 have g3:B2<B3:=by omega
 have g4:B3<w1.heap.size:=by omega
 clear d9 e1 e2 b2;obtain⟨x0,x1,x2,x3⟩:=VX;obtain⟨y0,y1,y2,y3⟩:=VY;obtain⟨z0,z1,z2,z3⟩:=VZ;obtain⟨r0,r1,r2,r3⟩:=VR;have f0:=FR 0;have f1:=FR 1;have f2:=FR 2;have f3:=FR 3
 cases h1:R.same y x
 ·have VX:VB w1 w.heap.size (pk x) x.n x.text (.slice xa x.items.length xc):=⟨x0,x1,x2,x3⟩
  have VY:VB w1 B1 (pk y) y.n y.text (.slice ya y.items.length yc):=⟨y0,y1,y2,y3⟩
  have VZ:VB w1 B2 (pk z) z.n z.text (.slice za z.items.length zc):=⟨z0,z1,z2,z3⟩
  have VR:VB w1 B3 0 0 [] (.slice none 0 0):=⟨r0,r1,r2,r3⟩
  go_wp2_with fail
  refine(c6.out _ a9.out).mono ?_;rintro e w2 ⟨rfl,a5⟩;have b5:=a5.size;have d6 :=VX.below a5 (by omega);have d7 :=VY.below a5 (by omega);have d8 :=VZ.below a5 (by omega);have a6 :=VR.below a5 (by omega);have a3 :∀j,w2.frozen? ⟨B3,j,none⟩=false:=fun j=>(a5.frozen (p:=⟨B3,j,none⟩) (by show B3<_;omega)).trans (FR j)
  have a1:Hid (Below w.heap.size w w2):=a9.out.trans (a5.mono (by omega));clear x0 x1 x2 x3 y0 y1 y2 y3 z0 z1 z2 z3 r0 r1 r2 r3 f0 f1 f2 f3 VX VY VZ VR FR a5 a9 c6;obtain⟨x0,x1,x2,x3⟩:=d6;obtain⟨y0,y1,y2,y3⟩:=d7;obtain⟨z0,z1,z2,z3⟩:=d8;obtain⟨r0,r1,r2,r3⟩:=a6;have f0:=a3 0;have f1:=a3 1;have f2:=a3 2;have f3:=a3 3;have g5:B3<w2.heap.size:=by omega
  clear b5 g4
  cases h2:R.same z x
  ·by_cases k3:y.kind=0
   ·have HJ:Hid (R.joinedV x y z=(z,0)):=by show _=_;rw[R.joinedV,if_neg (by simp[h1]),if_neg (by simp[h2]),if_pos k3]
    have q3:(pk y==0)=true:=by simpa using(KW HY.out).2 k3
    clear h1 h2 k3;go_wp2;refine bodyPost_ret (v:= .tuple #[.agg #[.int .i64 (pk z),.int .i64 z.n,.string ⟨z.text.toArray⟩,.slice za z.items.length zc],.int .i64 0]) (by simp[results,EY,go_sem, *]) rfl ?_;rw[HJ.out];exact⟨za,zc,rfl,b8.out _ _ (Zg B3 a1.out (by omega) _ _ _ _) (fun b hb=> .inl hb),Zg B3 a1.out (by omega) _ _ _ _⟩
   ·have q3:(pk y==0)=false:=by simpa using fun e=>k3 ((KW HY.out).1 e)
    by_cases k4:z.kind=0
    ·have HJ:Hid (R.joinedV x y z=(y,0)):=by show _=_;rw[R.joinedV,if_neg (by simp[h1]),if_neg (by simp[h2]),if_neg k3,if_pos k4]
     have q4:(pk z==0)=true:=by simpa using(KW HZ.out).2 k4
     clear h1 h2 k3 k4;go_wp2;refine bodyPost_ret (v:= .tuple #[.agg #[.int .i64 (pk y),.int .i64 y.n,.string ⟨y.text.toArray⟩,.slice ya y.items.length yc],.int .i64 0]) (by simp[results,EY,go_sem, *]) rfl ?_;rw[HJ.out];exact⟨ya,yc,rfl,b7.out _ _ (Zg B3 a1.out (by omega) _ _ _ _) (fun b hb=> .inl hb),Zg B3 a1.out (by omega) _ _ _ _⟩
    ·have q4:(pk z==0)=false:=by simpa using fun e=>k4 ((KW HZ.out).1 e)
     by_cases k5:y.kind=z.kind
     ·have q5:(pk y==pk z)=true:=by simp[pk,k5]
      have b1:=HY.out.ok k3;have b4:=HZ.out.ok k4;have a8:R.joinedV x y z=if y.kind=35 then R.counterJ y.path (y.n+z.n-R.baseN x 35)else if y.kind=61 then({path:=y.path,kind:=61,n:=0,text:=R.later y.text z.text,items:=[]},0)else R.bagV y.path (R.bagJ (R.baseI x y.kind) y.items z.items):=by
       rw[R.joinedV,if_neg (by simp[h1]),if_neg (by simp[h2]),if_neg k3,if_neg k4,if_neg (by simp[k5])]
      rcases b1.kinds with k6|k6|k6
      ·have q6:(pk y==1)=true:=by simp[pk,k6]
       have HJ:Hid (R.joinedV x y z=R.counterJ p (y.n+z.n-x.n)):=by show _=_;rw[a8,if_pos k6,HY.out.path,HX.out.baseN]
       have HC:Hid (∀W,Calls rJ 185 #[.agg #[.int .i64 (pk x),.int .i64 x.n,.string ⟨x.text.toArray⟩,.slice xa x.items.length xc],.agg #[.int .i64 (pk y),.int .i64 y.n,.string ⟨y.text.toArray⟩,.slice ya y.items.length yc],.agg #[.int .i64 (pk z),.int .i64 z.n,.string ⟨z.text.toArray⟩,.slice za z.items.length zc]] W fun e w' =>e= .returned (.tuple #[.agg #[.int .i64 (pk (R.counterJ p (y.n+z.n-x.n)).1),.int .i64 (R.counterJ p (y.n+z.n-x.n)).1.n,.string ⟨#[]⟩,.slice none 0 0],.int .i64 (R.counterJ p (y.n+z.n-x.n)).2])∧Below W.heap.size W w'):=fun W=>KM _ _ _ _ _ _ _ _ _ p _ _ _ _ _ _ _ _ _ W HX.out.n_hi HY.out.n_hi HZ.out.n_hi
       clear h1 h2 k3 k4 k5 k6 a8 b1 b4;go_wp2_with fail
       refine(HC.out _).mono ?_;rintro e w3 ⟨rfl,a2⟩;have e3:=a2.size;have b6:Hid (Below w.heap.size w w3):=a1.out.trans (a2.mono (by omega));have a6 :VB w2 B3 0 0 [] (.slice none 0 0):=⟨r0,r1,r2,r3⟩
       have a7 :=a6.below a2 (by omega);have a0 :∀j,w3.frozen? ⟨B3,j,none⟩=false:=fun j=>(a2.frozen (p:=⟨B3,j,none⟩) (by show B3<_;omega)).trans (a3 j)
       clear x0 x1 x2 x3 y0 y1 y2 y3 z0 z1 z2 z3 r0 r1 r2 r3 f0 f1 f2 f3 a6 a3 a2 a1;obtain⟨r0,r1,r2,r3⟩:=a7;have f0:=a0 0;have f1:=a0 1;have f2:=a0 2;have f3:=a0 3;have HT:Hid ((R.counterJ p (y.n+z.n-x.n)).1.text=[]∧(R.counterJ p (y.n+z.n-x.n)).1.items=[]):=by
        show _∧_;unfold R.counterJ R.bad;split<;>exact⟨rfl,rfl⟩
       generalize R.counterJ p (y.n+z.n-x.n)=cj at*;go_wp2;refine bodyPost_ret (v:= .tuple #[.agg #[.int .i64 (pk cj.1),.int .i64 cj.1.n,.string ⟨#[]⟩,.slice none 0 0],.int .i64 cj.2]) (by simp[results,EY,go_sem, *]) rfl ?_;rw[HJ.out];refine⟨none,0,by rw[HT.out.1,HT.out.2];rfl,It.nil _ _ _ HT.out.2,Zg B3 b6.out (by omega) _ _ _ _⟩
      ·have q6:(pk y==1)=false:=by simp[pk,k6]
       have q7:(pk y==3)=false:=by simp[pk,k6]
       have HJ:Hid (R.joinedV x y z=({path:=y.path,kind:=61,n:=0,text:=R.later y.text z.text,items:=[]},0)):=by show _=_;rw[a8,if_neg (by simp[k6]),if_pos k6]
       have mx:=fg y.text z.text;clear h1 h2 k3 k4 k5 k6 a8 b1 b4;go_wp2;refine bodyPost_ret (v:= .tuple #[.agg #[.int .i64 2,.int .i64 0,.string ⟨(R.later y.text z.text).toArray⟩,.slice none 0 0],.int .i64 0]) (by simp[results,EY,go_sem, *]) rfl ?_;rw[HJ.out];exact⟨none,0,rfl,It.nil _ _ _ rfl,Zg B3 a1.out (by omega) _ _ _ _⟩
      ·have q6:(pk y==1)=false:=by simp[pk,k6]
       have q7:(pk y==3)=true:=by simp[pk,k6]
       have HJ:Hid (R.joinedV x y z=R.bagV p (R.bagJ x.items y.items z.items)):=by show _=_;rw[a8,if_neg (by simp[k6]),if_neg (by simp[k6]),HY.out.path,k6,HX.out.baseI]
       have HN:Hid (∀b,(fun b=>M b∨b=B3) b→b<w2.heap.size):=fun b hb=>by
        rcases hb with hb|hb
        ·have:=hM b hb;omega
        ·omega
       have b3:∀b,(fun b=>M b∨b=B3) b→M b∨w.heap.size≤b:=fun b hb=>by
        rcases hb with hb|hb
        ·exact .inl hb
        ·exact .inr (by omega)
       have hC:=Of x y z xa ya za xc yc zc p w2 (fun b=>M b∨b=B3) HN.out HX.out ⟨b1,k6⟩ ⟨b4,by rw[←k5];exact k6⟩ (d5.out _ _ a1.out b3) (b7.out _ _ a1.out b3) (b8.out _ _ a1.out b3);have HC:=z9 hC;clear h1 h2 k3 k4 k5 k6 a8 b1 b4 hC b3;go_wp2_with fail
       refine HC.out.mono ?_;rintro e w3 ⟨ia,ic,rfl,d3,a2⟩;have d4:=z9 d3;have e3:=a2.size;have b6:Hid (Below w.heap.size w w3):=a1.out.trans (a2.mono (by omega));have a6 :VB w2 B3 0 0 [] (.slice none 0 0):=⟨r0,r1,r2,r3⟩
       have a7 :=a6.below a2 (by omega);have a0 :∀j,w3.frozen? ⟨B3,j,none⟩=false:=fun j=>(a2.frozen (p:=⟨B3,j,none⟩) (by show B3<_;omega)).trans (a3 j)
       clear x0 x1 x2 x3 y0 y1 y2 y3 z0 z1 z2 z3 r0 r1 r2 r3 f0 f1 f2 f3 a6 a3 a2 a1 d3 HC;obtain⟨r0,r1,r2,r3⟩:=a7;have f0:=a0 0;have f1:=a0 1;have f2:=a0 2;have f3:=a0 3;have HT:Hid ((R.bagV p (R.bagJ x.items y.items z.items)).1.text=[]∧(R.bagV p (R.bagJ x.items y.items z.items)).1.n=0):=by
        show _∧_;unfold R.bagV R.bad;split<;>exact⟨rfl,rfl⟩
       generalize R.bagV p (R.bagJ x.items y.items z.items)=cj at*;go_wp2;refine bodyPost_ret (v:= .tuple #[.agg #[.int .i64 (pk cj.1),.int .i64 0,.string ⟨#[]⟩,.slice ia cj.1.items.length ic],.int .i64 cj.2]) (by simp[results,EY,go_sem, *]) rfl ?_;rw[HJ.out];exact⟨ia,ic,by rw[HT.out.1,HT.out.2],Rd.step d4.out (ze.four (Z:=fun b=>b=B3) (ze.refl _ _) (.inl rfl) _ _ _ _) (fun b hb=> .inr hb) (fun b hb=> .inl (.inl hb)),Zg B3 b6.out (by omega) _ _ _ _⟩
     ·have q5:(pk y==pk z)=false:=by simpa using fun e=>k5 (gG HY.out HZ.out e)
      have HJ:Hid (R.joinedV x y z=R.bad 6):=by show _=_;rw[R.joinedV,if_neg (by simp[h1]),if_neg (by simp[h2]),if_neg k3,if_neg k4,if_pos k5]
      clear h1 h2 k3 k4 k5;go_wp2;refine bodyPost_ret (v:= .tuple #[.agg #[.int .i64 0,.int .i64 0,.string ⟨#[]⟩,.slice none 0 0],.int .i64 6]) (by simp[results,EY,go_sem, *]) rfl ?_;rw[HJ.out];exact⟨none,0,rfl,It.nil _ _ _ rfl,Zg B3 a1.out (by omega) _ _ _ _⟩
  ·have HJ:Hid (R.joinedV x y z=(y,0)):=by show _=_;rw[R.joinedV,if_neg (by simp[h1]),if_pos h2]
   clear h1 h2;go_wp2;refine bodyPost_ret (v:= .tuple #[.agg #[.int .i64 (pk y),.int .i64 y.n,.string ⟨y.text.toArray⟩,.slice ya y.items.length yc],.int .i64 0]) (by simp[results,EY,go_sem, *]) rfl ?_;rw[HJ.out];exact⟨ya,yc,rfl,b7.out _ _ (Zg B3 a1.out (by omega) _ _ _ _) (fun b hb=> .inl hb),Zg B3 a1.out (by omega) _ _ _ _⟩
 ·have HJ:Hid (R.joinedV x y z=(z,0)):=by show _=_;rw[R.joinedV,if_pos h1]
  clear h1;go_wp2;refine bodyPost_ret (v:= .tuple #[.agg #[.int .i64 (pk z),.int .i64 z.n,.string ⟨z.text.toArray⟩,.slice za z.items.length zc],.int .i64 0]) (by simp[results,EY,go_sem, *]) rfl ?_;rw[HJ.out];exact⟨za,zc,rfl,b8.out _ _ (Zg B3 a9.out (by omega) _ _ _ _) (fun b hb=> .inl hb),Zg B3 a9.out (by omega) _ _ _ _⟩
def y7 (TS:List (List R.Leaf)):List (List UInt8):=TS.flatten.map R.Leaf.path
theorem fj (TS:List (List R.Leaf))(k:Nat)(hk:k<TS.length):y7 (TS.take (k+1))=y7 (TS.take k)++TS[k].map R.Leaf.path:=by
 unfold y7;rw[mD hk,EZ,rP];simp
theorem CD (TS:List (List R.Leaf))(k:Nat):(y7 (TS.take k)).length≤(y7 TS).length:=by
 unfold y7;rw[pA,pA];conv=>rhs;rw[←List.take_append_drop k TS,EZ,mB]
 omega
theorem cI (b0 c0:Nat)(TS:List (List R.Leaf))(w:World)(M:Nat→Prop)(d7:TS.length≤c0∧c0≤100)(hn:(y7 TS).length≤1000)(d8:b0<w.heap.size)
  (c6:∀j (hj:j<TS.length),∃a c,w.cell? ⟨b0,j,none⟩=some (.slice a TS[j].length c)∧PT w M (.slice a TS[j].length c) TS[j])
  (b6:∀(W:World) (v:Value),Below w.heap.size w W→W.ownsRow w.heap.size 9 1 v (y7 TS).length ((y7 TS).map S)→Calls rJ 183 #[v] W fun e w' =>e= .returned (.tuple #[])∧Below w.heap.size w w' ∧w'.ownsRow w.heap.size 9 1 v (y7 TS).length (((y7 TS).mergeSort fun x y=>decide (x≤y)).map S))
  (b1:∀(W:World) (v:Value),Below w.heap.size w W→W.ownsRow w.heap.size 9 1 v (y7 TS).length (((y7 TS).mergeSort fun x y=>decide (x≤y)).map S)→Calls rJ 184 #[v] W fun e w' =>∃a c,e= .returned (.slice a (pN ((y7 TS).mergeSort fun x y=>decide (x≤y))).length c)∧Below w.heap.size w w' ∧w'.ownsRow w.heap.size 9 1 (.slice a (pN ((y7 TS).mergeSort fun x y=>decide (x≤y))).length c) (pN ((y7 TS).mergeSort fun x y=>decide (x≤y))).length ((pN ((y7 TS).mergeSort fun x y=>decide (x≤y))).map S)):
  Calls rJ 137 #[.slice (some ⟨b0,0,none⟩) TS.length c0] w fun e w' =>∃a c,e= .returned (.slice a (pN ((y7 TS).mergeSort fun x y=>decide (x≤y))).length c)∧Below w.heap.size w w' ∧w'.ownsRow w.heap.size 9 1 (.slice a (pN ((y7 TS).mergeSort fun x y=>decide (x≤y))).length c) (pN ((y7 TS).mergeSort fun x y=>decide (x≤y))).length ((pN ((y7 TS).mergeSort fun x y=>decide (x≤y))).map S):=by
 have a8 :=z9 b6;have a6 :=z9 b1;clear b6 b1;obtain⟨f5,f6⟩:=d7;have b2:Hid (∀k,(y7 (TS.take k)).length≤(y7 TS).length):=CD TS;have b5:Hid (∀k (hk:k<TS.length),y7 (TS.take (k+1))=y7 (TS.take k)++TS[k].map R.Leaf.path):=fj TS;have d5:=z9 c6;clear c6;go_enter Tryz.func137,Tryz.ntmps137;go_wp2;go_loopw [3,10] (fun s i wr=>∃k:Nat,k≤TS.length∧i= .int .i64 k∧(∃va vc,s= .slice va (y7 (TS.take k)).length vc)∧wr.ownsRow w.heap.size 9 1 s (y7 (TS.take k)).length ((y7 (TS.take k)).map S)∧Below w.heap.size w wr) (fun _ i _=>TS.length-(intOf i).toNat)
 case atStart=>exact⟨0,sQ _,rfl,⟨none,0,rfl⟩,H3 _ _ _ _,j0g _ _⟩
 case round=>
  obtain⟨k,hk,rfl,⟨va,vc,rfl⟩,ho,hb⟩:=hrel;have c9:=hb.size;by_cases a9:k<TS.length
  ·obtain⟨ta,tc,b8,L,hL,⟨g0,g1,f0,f9,f3,d3⟩,hI⟩:=d5.out k a9
   injection f0 with e1 e2 e3
   subst e1 e3;have e0:=(hb.cell (p:=⟨b0,k,none⟩) d8).trans b8;have b4:=z9 (b5.out k a9);have f7:=b2.out k;have f8:=b2.out (k+1);have a5:(y7 (TS.take (k+1))).length=(y7 (TS.take k)).length+TS[k].length:=by rw[b5.out k a9,mB,pA]
   rw[←hL]at b4 a5 e0;rw[pA]at a5 e0;unfold maxLen at f3;clear b8 hL e2;generalize y7 (TS.take k)=P0 at*;generalize b7:y7 (TS.take (k+1))=P1 at*;have b3:=z9 b7;clear b7;have HO:=z9 ho;clear ho;go_wp2;go_loopw [3,16] (fun s i wq=>∃m:Nat,m≤L.length∧i= .int .i64 m∧(∃va vc,s= .slice va (P0.length+m) vc)∧wq.ownsRow w.heap.size 9 1 s (P0.length+m) ((P0++(L.take m).map fun p=>p.1.path).map S)∧Below w.heap.size w wq) (fun _ i _=>L.length-(intOf i).toNat)
   case atStart=>exact⟨0,sQ _,rfl,⟨va,vc,rfl⟩,by simpa using HO.out,hb⟩
   case round=>
    rename World=>wq
    obtain⟨m,hm,rfl,⟨va,vc,rfl⟩,ho,hb⟩:=hrel;have c9:=hb.size;by_cases c7:m<L.length
    ·obtain⟨b,off,rfl,a4,_,a0⟩:=d3 (by omega)
     obtain⟨x,ia,ic,HL,e7,c0,c1,c2,c3,c4⟩:=qo hI a0 m c7;have e0:=(hb.cell (p:=⟨b,off+m*5,none⟩) a4).trans c0;have e1:=(hb.cell (p:=⟨b,off+m*5+1,none⟩) a4).trans c1;have e2:=(hb.cell (p:=⟨b,off+m*5+2,none⟩) a4).trans c2;have e3:=(hb.cell (p:=⟨b,off+m*5+3,none⟩) a4).trans c3;have e4:=(hb.cell (p:=⟨b,off+m*5+4,none⟩) a4).trans c4;have HT:Hid ((P0++(L.take (m+1)).map fun p=>p.1.path).map S=(P0++(L.take m).map fun p=>p.1.path).map S++ [.string ⟨x.path.toArray⟩]):=by
      show _=_;rw[mD c7,HL.out];simp[S]
     have HO:=z9 ho;clear a0 d3 hI c0 c1 c2 c3 c4 e7 HL ho;go_wp2_with (at_builtin;go_loud (refine gd _ (by rfl) _ _ 45 (by rfl) w.heap.size 9 (.string ⟨#[]⟩) 1 16 Tryz.underlying45 Tryz.info9 (by rfl) (by decide) (HO.out.alloc _) #[.string ⟨x.path.toArray⟩] rfl (by rfl) (by rw[aL];rfl) (by intro u hu;simp at hu;subst hu;rfl) (by unfold maxLen;omega) (by omega) (by simp;omega) ?_))
     intro v' w1 a3 b9;have a7:=z9 a3;have d4:Hid (Below w.heap.size w w1):=(hb.alloc c9 _).grown b9 (by simp;omega) (fun j hj=>(HO.out.lt j hj).1);obtain⟨a1,c1,f4,_⟩:=zl a3;subst f4;clear a3 b9 hb;go_wp2;go_roundw
     case rel=>
      refine⟨m+1,by omega,by go_num,⟨a1,c1,rfl⟩,?_,d4.out⟩;have:=a7.out;rw[show P0.length+(m+1)=P0.length+m+1 from rfl,HT.out];simpa using this
     case measure=>simp[intOf];omega
    ·have e9:m=L.length:=by omega
     subst e9;have HO:=z9 ho;clear ho;go_wp2;go_roundw
     case rel=>
      refine⟨k+1,by omega,by go_num,⟨va,vc,?_⟩,?_,hb⟩
      ·rw[b3.out,a5]
      ·have:=HO.out
       rw[wN]at this;rw[b3.out,a5,b4.out,aE];exact this
     case measure=>simp[intOf];omega
  ·have e8:k=TS.length:=by omega
   subst e8;rw[wN]at ho;have HO:=z9 ho;clear ho;rw[wN];go_wp2_with fail
   refine(a8.out _ _ hb HO.out).mono ?_;rintro e w1 ⟨rfl,d9,a3⟩;have a7:=z9 a3;clear a3;go_wp2_with fail
   refine(a6.out _ _ d9 a7.out).mono ?_;rintro e w2 ⟨a2,c2,rfl,e6,c8⟩;have d6:=z9 c8;clear c8;go_wp2;go_ret;exact⟨a2,c2,rfl,e6,d6.out⟩
theorem Bf (B:Nat)(v:Value)(t:List R.Leaf)(x:R.Leaf)(ia:Option Addr)(il ic:Nat)(w:World)(M:Nat→Prop)(h:PT w M v t)(hg:∀x∈t,x.path.length≤1000)(a2:x.path.length≤1000)(hB:B<w.heap.size)(hc:w.cell? ⟨B,0,none⟩=some v):
  Calls rJ 188 #[.agg #[.string ⟨x.path.toArray⟩,.int .i64 (pk x),.int .i64 x.n,.string ⟨x.text.toArray⟩,.slice ia il ic],.pointer (some ⟨B,0,none⟩)] w fun e w' =>e= .returned (.bool (R.blocked t x.path))∧Below w.heap.size w w' :=by
 obtain⟨va,vc,hv⟩:=Vo h;have a1:=fun W (hW:Below w.heap.size w W)=>Om v t x.path W M (h.below hW) hg a2
 subst hv;have a4:=z9 a1;clear a1 h hg a2;go_enter H5,Tryz.ntmps188;go_wp2_with fail
 refine(a4.out _ ((j0g _ _).alloc (j0a _) _)).mono ?_;rintro e w1 ⟨rfl,a0⟩;have a3:Hid (Below w.heap.size w w1):=((j0g _ _).alloc (j0a _) _).trans (a0.mono (by simp));clear a0;go_wp2;go_ret;exact⟨rfl,a3.out⟩
theorem cE (B:Nat)(v:Value)(t:List R.Leaf)(w:World)(M:Nat→Prop)(h:PT w M v t)(hg:∀x∈t,x.path.length≤1000)(hB:B<w.heap.size)(a9:w.cell? ⟨B,0,none⟩=some v):
  Calls rJ 224 #[v,.func (.func 188) #[] #[.pointer (some ⟨B,0,none⟩)]] w fun e w' =>∃i:Int,e= .returned (.int .i64 i)∧decide (0≤i)=R.tangled t∧Below w.heap.size w w' :=by
 have h1:=fun(x:R.Leaf) (ia:Option Addr) (il ic:Nat) (hx:x∈t) (W:World) (hW:Below w.heap.size w W)=>Bf B v t x ia il ic W M (h.below hW) hg (hg x hx) (j0b hB hW.size) ((hW.cell (p:=⟨B,0,none⟩) hB).trans a9)
 obtain⟨L,hL,⟨a,cap,rfl,hn,hm,hc⟩,hI⟩:=h;have HT:Hid (R.tangled t=L.any fun p=>R.blocked t p.1.path):=by
  show _=_;unfold R.tangled;conv=>lhs;arg 1;rw[←hL]
  rw[List.any_map];rfl
 have HM:Hid (∀p∈L,p.1∈t):=fun p hp=>by rw[←hL];exact List.mem_map_of_mem hp
 have H1:=z9 h1;unfold maxLen at hm;clear h1 hL hg a9;have b2:∀args w,(callFunc 188 args).run rJ w= .ok (.enter 188 args) w:=enters_of H5 (by kernel_rfl) rfl
 go_enter Tryz.func224,Tryz.ntmps224;go_wp2;go_loopw [8] (fun i wr=>∃k:Nat,k≤L.length∧i= .int .i64 k∧(∀j (hj:j<L.length),j<k→R.blocked t (L[j]'hj).1.path=false)∧Below w.heap.size w wr) (fun i _=>L.length-(intOf i).toNat)
 case atStart=>exact⟨0,sQ _,rfl,fun j hj h=>by omega,j0g _ _⟩
 case round=>
  obtain⟨k,hk,rfl,a3,hb⟩:=hrel;have a2:=z9 a3;clear a3;have b1:=hb.size;by_cases a6:k<L.length
  ·obtain⟨b,off,rfl,a5,_,a1⟩:=hc (by omega)
   obtain⟨x,ia,ic,HL,b3,c0,c1,c2,c3,c4⟩:=qo hI a1 k a6;have e0:=(hb.cell (p:=⟨b,off+k*5,none⟩) a5).trans c0;have e1:=(hb.cell (p:=⟨b,off+k*5+1,none⟩) a5).trans c1;have e2:=(hb.cell (p:=⟨b,off+k*5+2,none⟩) a5).trans c2;have e3:=(hb.cell (p:=⟨b,off+k*5+3,none⟩) a5).trans c3;have e4:=(hb.cell (p:=⟨b,off+k*5+4,none⟩) a5).trans c4;have HX:Hid ((L[k]'a6).1=x):=by show _=_;rw[HL.out]
   have a8:x∈t:=by rw[←HX.out];exact HM.out _ (j0c a6)
   have a0:=H1.out x ia x.items.length ic a8 wr hb;clear a1 hc hI c0 c1 c2 c3 c4 b3
   cases hq:R.blocked t x.path
   ·rw[hq]at a0
    have HQ:=z9 hq;have HC:=z9 a0;clear hq a0 a8;go_wp2_with fail
    refine HC.out.mono ?_;rintro e w1 ⟨rfl,a4⟩;have a7:Hid (Below w.heap.size w w1):=hb.trans (a4.mono b1);clear a4;go_wp2;go_roundw
    case rel=>
     refine⟨k+1,by omega,by go_num,fun j hj b5=> ?_,a7.out⟩;by_cases e:j=k
     ·subst e;rw[HX.out];exact HQ.out
     ·exact a2.out j hj (by omega)
    case measure=>simp[intOf];omega
   ·rw[hq]at a0
    have HQ:=z9 hq;have HC:=z9 a0;clear hq a0 a8;go_wp2_with fail
    refine HC.out.mono ?_;rintro e w1 ⟨rfl,a4⟩;have a7:Hid (Below w.heap.size w w1):=hb.trans (a4.mono b1);clear a4;go_wp2;go_ret;refine⟨k,rfl,?_,a7.out⟩;rw[HT.out,sS,List.any_eq_true];exact⟨fun _=>⟨_,j0c a6,by rw[HX.out];exact HQ.out⟩,fun _=>decide_eq_true (by omega)⟩
  ·have b4:k=L.length:=by omega
   subst b4;go_wp2;go_ret;refine⟨-1,rfl,?_,hb⟩;rw[HT.out];symm
   show _=false;rw[List.any_eq_false];intro p hp;obtain⟨j,hj,rfl⟩:=List.getElem_of_mem hp;rw[a2.out j hj hj];simp
theorem fS (v:Value)(t:List R.Leaf)(w:World)(M:Nat→Prop)(h:PT w M v t)(hg:∀x∈t,x.path.length≤1000):
  Calls rJ 139 #[v] w fun e w' =>e= .returned (.bool (R.tangled t))∧Below w.heap.size w w' :=by
 have a1:=fun(B:Nat) (W:World) (hW:Below w.heap.size w W) (hB:B<W.heap.size) (hc:W.cell? ⟨B,0,none⟩=some v)=>cE B v t W M (h.below hW) hg hB hc
 have a2:∀(B:Nat) (W:World) (hW:Below w.heap.size w W) (hB:B<W.heap.size) (hc:W.cell? ⟨B,0,none⟩=some v),Calls rJ 187 #[v,.func (.func 188) #[] #[.pointer (some ⟨B,0,none⟩)]] W fun e w' =>e= .returned (.bool (R.tangled t))∧Below W.heap.size W w' :=by
  intro B W hW hB hc;have a5:=z9 (a1 B W hW hB hc);obtain⟨va,vc,hv⟩:=Vo h;subst hv;clear a1 h hg hc;go_enter Tryz.func187,Tryz.ntmps187;go_wp2_with fail
  refine a5.out.mono ?_;rintro e w1 ⟨i,rfl,hi,a0⟩;have HI:=z9 hi;clear hi;go_wp2;go_ret;exact⟨zA (by rw[←HI.out]),a0⟩
 have a4:=z9 a2;obtain⟨va,vc,hv⟩:=Vo h;subst hv;clear a1 a2 h hg;go_enter Tryz.func139,Tryz.ntmps139;go_wp2_with fail
 refine(a4.out _ _ ((j0g _ _).alloc (j0a _) _) (by simp) (by simp)).mono ?_;rintro e w1 ⟨rfl,a0⟩;have a3:Hid (Below w.heap.size w w1):=((j0g _ _).alloc (j0a _) _).trans (a0.mono (by simp));clear a0;go_wp2;go_ret;exact⟨rfl,a3.out⟩
theorem C6 (b o t:List R.Leaf)(hb:OkT b)(ho:OkT o)(ht:OkT t):(R.allP b o t).length≤72:=by
 rw[←JZ hb ho ht];refine j0f (H6 _) ?_;rw[H7,pA,mB,mB];have:=hb.few;have:=ho.few;have:=ht.few;omega
theorem fJ {b o t:List R.Leaf}{k:Nat}(hk:k<(R.allP b o t).length)(h:∀p∈(R.allP b o t).take k,(R.valJ b o t p).2=0)(he:(R.valJ b o t (R.allP b o t)[k]).2≠0):R.joinT b o t=([],(R.valJ b o t (R.allP b o t)[k]).2):=by
 have e:=bk k hk h he;unfold R.joinT R.joinP;rw[e,if_pos he]
theorem fI {b o t:List R.Leaf}(h:∀p∈R.allP b o t,(R.valJ b o t p).2=0):R.joinT b o t=R.endJ (R.outJ b o t (R.allP b o t)):=by
 unfold R.joinT R.joinP;rw[bj h,if_neg (by simp)]
theorem CJ (x:R.Leaf)(p:List UInt8):pk {x with path:=p}=pk x:=rfl
theorem It.grown {wE w5:World}{M:Nat→Prop}{s s' :Value}{n:Nat}(h:(s'.ownBlock=s.ownBlock∧wE.grownBy w5 s.ownBlock)∨(s'.ownBlock=some n∧wE.grownBy w5 none))(hn:wE.heap.size=n){q:R.Leaf×Value}(hq:It wE (fun b=>M b∨s.ownBlock=some b) q):It w5 (fun b=>M b∨s'.ownBlock=some b) q:=by
 rcases h with⟨h1,h2⟩|⟨h1,h2⟩
 ·refine Rd.step hq (O:=fun b=>s.ownBlock=some b) ⟨h2.os,h2.tape,h2.output,h2.size,fun k hk hn=>h2.block k hk (fun e=>hn e.symm)⟩ (fun b hb=> .inr hb) (fun b hb=> .inl ?_)
  rw[h1]at hb;exact hb
 ·refine Rd.step hq (O:=fun _=>False) ⟨h2.os,h2.tape,h2.output,h2.size,fun k hk _=>h2.block k hk (by simp)⟩ (fun b hb=>hb.elim) (fun b hb=> ?_)
  rcases hb with hb|hb
  ·exact .inl (.inl hb)
  ·rw[h1]at hb;injection hb with hb;exact .inr (by omega)
theorem Below.grown' {n m:Nat}{w wE w5:World}{s s' :Value}(h:(s'.ownBlock=s.ownBlock∧wE.grownBy w5 s.ownBlock)∨(s'.ownBlock=some m∧wE.grownBy w5 none))(hb:Below n w wE)(hn:n≤wE.heap.size)(ho:∀g,s.ownBlock=some g→n≤g):Below n w w5:=by
 rcases h with⟨_,h2⟩|⟨_,h2⟩
 ·exact hb.grown h2 hn ho
 ·exact hb.grown h2 hn (fun g e=>by cases e)
theorem CE {w:World}{base:Nat}{M N:Nat→Prop}{v:Value}{L:List (R.Leaf×Value)}{t:List R.Leaf}(hL:L.map (·.1)=t)(ho:w.ownsRow base 139 5 v L.length (zG L))(hM:∀b,M b→b<base)(hN:∀b,M b→N b)(hI:∀q∈L,It w N q):PT w M v t:=
 ⟨L,hL,Rd.of_owns ho hM,fun q hq=>Rd.step (hI q hq) (ze.refl (fun _=>False) w) (fun _ e=>e.elim) (fun b hb=> .inl (hN b hb))⟩
theorem fU (ba oa ta:Option Addr)(bc oc tc:Nat)(b o t:List R.Leaf)(w:World)(M:Nat→Prop)(hM:∀b,M b→b<w.heap.size)(hb:PT w M (.slice ba b.length bc) b)(ho:PT w M (.slice oa o.length oc) o)(ht:PT w M (.slice ta t.length tc) t)(a8:OkT b)(a9:OkT o)(b1:OkT t)
  (HP:∀(W:World) (b0:Nat),Below w.heap.size w W→b0<W.heap.size→W.cell? ⟨b0,0,none⟩=some (.slice ba b.length bc)→W.cell? ⟨b0,1,none⟩=some (.slice oa o.length oc)→W.cell? ⟨b0,2,none⟩=some (.slice ta t.length tc)→
   Calls rJ 137 #[.slice (some ⟨b0,0,none⟩) 3 3] W fun e w' =>∃a c,e= .returned (.slice a (R.allP b o t).length c)∧Below W.heap.size W w' ∧w'.ownsRow W.heap.size 9 1 (.slice a (R.allP b o t).length c) (R.allP b o t).length ((R.allP b o t).map S)):
  Calls rJ 87 #[.slice ba b.length bc,.slice oa o.length oc,.slice ta t.length tc] w fun e w' =>∃va vc,e= .returned (.tuple #[.slice va (R.joinT b o t).1.length vc,.int .i64 (R.joinT b o t).2])∧PT w' M (.slice va (R.joinT b o t).1.length vc) (R.joinT b o t).1∧Below w.heap.size w w' :=by
 have i6:∀(p:List UInt8) (W:World) (N:Nat→Prop),Below w.heap.size w W→(∀b,N b→M b∨w.heap.size≤b)→Calls rJ 94 #[.slice ba b.length bc,.string ⟨p.toArray⟩] W fun e w' =>∃ia ic,e= .returned (QU (R.at_ b p) (.slice ia (R.at_ b p).items.length ic))∧It W N (R.at_ b p,.slice ia (R.at_ b p).items.length ic)∧Below W.heap.size W w' :=fun p W N hW hN=>UB _ b p W N (PT.step hb (ze.of_below (M:=fun _=>False) hW) (fun _ e=>e.elim) hN) (by have:=a8.few;omega) a8.sort
 have i7:∀(p:List UInt8) (W:World) (N:Nat→Prop),Below w.heap.size w W→(∀b,N b→M b∨w.heap.size≤b)→Calls rJ 94 #[.slice oa o.length oc,.string ⟨p.toArray⟩] W fun e w' =>∃ia ic,e= .returned (QU (R.at_ o p) (.slice ia (R.at_ o p).items.length ic))∧It W N (R.at_ o p,.slice ia (R.at_ o p).items.length ic)∧Below W.heap.size W w' :=fun p W N hW hN=>UB _ o p W N (PT.step ho (ze.of_below (M:=fun _=>False) hW) (fun _ e=>e.elim) hN) (by have:=a9.few;omega) a9.sort
 have i8:∀(p:List UInt8) (W:World) (N:Nat→Prop),Below w.heap.size w W→(∀b,N b→M b∨w.heap.size≤b)→Calls rJ 94 #[.slice ta t.length tc,.string ⟨p.toArray⟩] W fun e w' =>∃ia ic,e= .returned (QU (R.at_ t p) (.slice ia (R.at_ t p).items.length ic))∧It W N (R.at_ t p,.slice ia (R.at_ t p).items.length ic)∧Below W.heap.size W w' :=fun p W N hW hN=>UB _ t p W N (PT.step ht (ze.of_below (M:=fun _=>False) hW) (fun _ e=>e.elim) hN) (by have:=b1.few;omega) b1.sort
 have j2:∀(p:List UInt8) (xa ya za:Option Addr) (xc yc zc:Nat) (W:World) (N:Nat→Prop),(∀b,N b→b<W.heap.size)→It W N (R.at_ b p,.slice xa (R.at_ b p).items.length xc)→It W N (R.at_ o p,.slice ya (R.at_ o p).items.length yc)→It W N (R.at_ t p,.slice za (R.at_ t p).items.length zc)→Calls rJ 138 #[QU (R.at_ b p) (.slice xa (R.at_ b p).items.length xc),QU (R.at_ o p) (.slice ya (R.at_ o p).items.length yc),QU (R.at_ t p) (.slice za (R.at_ t p).items.length zc)] W fun e w' =>
   ∃ia ic,e= .returned (.tuple #[QU (R.valJ b o t p).1 (.slice ia (R.valJ b o t p).1.items.length ic),.int .i64 (R.valJ b o t p).2])∧It w' N ((R.valJ b o t p).1,.slice ia (R.valJ b o t p).1.items.length ic)∧Below W.heap.size W w' :=fun p xa ya za xc yc zc W N hN ix iy iz=>JD _ _ _ xa ya za xc yc zc p W N hN (qB a8.ok p) (qB a9.ok p) (qB b1.ok p) ix iy iz
 have e9:Hid (∀ps,(∀p∈ps,(R.valJ b o t p).2=0)→∀x∈R.outJ b o t ps,x.path.length≤1000):=fun ps h x hx=>by
  have:=(Gs a8 a9 b1 h x hx).1.good.path;omega
 have f3:Hid (∀p,(R.valJ b o t p).2=0→(R.valJ b o t p).1.kind≠0→(pk (R.valJ b o t p).1 !=0)=true):=fun p h1 h2=>by
  rcases jT (qB a8.ok p) (qB a9.ok p) (qB b1.ok p) h1 with h|⟨h,_⟩
  ·exact(h2 h).elim
  ·unfold R.valJ
   rcases h.kinds with h|h|h<;>simp[pk,h]
 have k4:=C6 b o t a8 a9 b1;have f5:Hid (∀k (hk:k<(R.allP b o t).length),R.outJ b o t ((R.allP b o t).take (k+1))=R.outJ b o t ((R.allP b o t).take k)++R.leafJ b o t (R.allP b o t)[k]):=fun k hk=>fo b o t _ k hk
 have a3:Hid (∀k (hk:k<(R.allP b o t).length),(∀p∈(R.allP b o t).take k,(R.valJ b o t p).2=0)→(R.valJ b o t (R.allP b o t)[k]).2≠0→R.joinT b o t=([],(R.valJ b o t (R.allP b o t)[k]).2)):=fun k hk=>fJ hk
 have a4:Hid ((∀p∈R.allP b o t,(R.valJ b o t p).2=0)→R.joinT b o t=R.endJ (R.outJ b o t (R.allP b o t))):=fI;have d7:=z9 i6;have d8:=z9 i7;have d9:=z9 i8;have e6:=z9 j2;have d5:=z9 HP;clear i6 i7 i8 j2 HP hb ho ht a8 a9 b1;generalize R.allP b o t=ps at*;go_enter Tryz.func87,Tryz.ntmps87;go_wp2_with fail
 refine(d5.out _ _ ((j0g _ _).alloc (j0a _) _) (by simp) (by simp) (by simp) (by simp)).mono ?_;rintro e w1 ⟨pa,pc,rfl,f7,j3⟩;have k6:=f7.size;simp only[aL]at k6;have g3:Hid (Below w.heap.size w w1):=((j0g _ _).alloc (j0a _) _).trans (f7.mono (by simp));obtain⟨a1,c1,k7,l6,k5,b8,a0⟩:=zl j3;injection k7 with e1 e2 e3
 subst e1 e3;have f6:=z9 a0;have a6:=z9 b8;unfold maxLen at k5;clear j3 a0 b8 f7 d5 e2;go_wp2_with fail
 go_loopw [8,19] (fun s i wr=>∃(k:Nat) (L:List (R.Leaf×Value)),k≤ps.length∧i= .int .i64 k∧(∃va vc,s= .slice va L.length vc)∧L.length≤k∧L.map (·.1)=R.outJ b o t (ps.take k)∧wr.ownsRow w1.heap.size 139 5 s L.length (zG L)∧(∀q∈L,It wr (fun b=>M b∨s.ownBlock=some b) q)∧(∀p∈ps.take k,(R.valJ b o t p).2=0)∧Below w1.heap.size w1 wr) (fun _ i _=>ps.length-(intOf i).toNat)
 case atStart=>exact⟨0,[],sQ _,rfl,⟨none,0,rfl⟩,j0a _,rfl,H3 _ _ _ _,(fun q hq=>by cases hq),(fun p hp=>by simp at hp),j0g _ _⟩
 case round=>
  obtain⟨k,L,hk,rfl,⟨va,vc,rfl⟩,l4,hL,ho,hI,hz,hb⟩:=hrel;have l8:=hb.size;have HO:=z9 ho;have f0:Hid (∀g,(Value.slice va L.length vc).ownBlock=some g→w1.heap.size≤g∧g<wr.heap.size):=ho.lt;have d4:Hid (∀b,(fun b=>M b∨(Value.slice va L.length vc).ownBlock=some b) b→M b∨w.heap.size≤b):=fun b hb=>by
   rcases hb with hb|hb
   ·exact .inl hb
   ·have:=f0.out b hb;exact .inr (by omega)
  have g7:Hid (∀W:World,wr.heap.size≤W.heap.size→∀b,(fun b=>M b∨(Value.slice va L.length vc).ownBlock=some b) b→b<W.heap.size):=fun W hW b hb=>by
   rcases hb with hb|hb
   ·have:=hM b hb;omega
   ·have:=f0.out b hb;omega
  have j8:Hid (∀b,M b→(fun b=>M b∨(Value.slice va L.length vc).ownBlock=some b) b):=fun b hb=> .inl hb
  have HI:=z9 hI;have e7:=z9 hL;have HZ:=z9 hz;have HB:=z9 hb;have c9:Hid (Below w.heap.size w wr):=g3.out.trans (hb.mono (by omega));by_cases a7:k<ps.length
  ·cases pa with
   |none=>have:=(a6.out rfl).1;omega
   |some ad=>
   obtain⟨g,rfl,l5,k2,k1,j1⟩:=f6.out ad rfl;have e0:wr.cell? ⟨g,k,none⟩=some (.string ⟨(ps[k]'a7).toArray⟩):=(hb.cell (p:=⟨g,k,none⟩) k2).trans (j1 k _ (by rw[List.getElem?_map,j0d a7];rfl));have i1:=z9 (f5.out k a7);have j5:=z9 (a3.out k a7 hz);have i3:Hid ((R.valJ b o t (ps[k]'a7)).2=0→∀p∈ps.take (k+1),(R.valJ b o t p).2=0):=fun h p hp=>by
    rw[mD a7]at hp;rcases nJ.1 hp with hp|hp
    ·exact HZ.out p hp
    ·rw[iE]at hp;rw[hp];exact h
   clear j1 k1 f6 a6 f5 a3 a4 e9 ho hI hL hz hb;generalize ps[k]'a7=p at*;generalize i5:(fun b=>M b∨(Value.slice va L.length vc).ownBlock=some b)=N at*;have g8:=z9 i5;clear i5;go_wp2_with fail
   refine(d7.out p _ N c9.out d4.out).mono ?_;rintro e wa ⟨xa,xc,rfl,ix,f9⟩;have c6:Hid (Below wr.heap.size wr wa):=f9;have b4:Hid (It wa N (R.at_ b p,.slice xa (R.at_ b p).items.length xc)):=Rd.below ix f9;clear ix f9 e0;go_wp2_with fail
   refine(d8.out p _ N (c9.out.trans (c6.out.mono (by omega))) d4.out).mono ?_;rintro e wb ⟨ya,yc,rfl,iy,d6⟩;have c7:Hid (Below wr.heap.size wr wb):=c6.out.trans (d6.mono c6.out.size);have b5 :Hid (It wb N (R.at_ b p,.slice xa (R.at_ b p).items.length xc)):=Rd.below b4.out d6;have g5:Hid (It wb N (R.at_ o p,.slice ya (R.at_ o p).items.length yc)):=Rd.below iy d6;clear iy d6 b4 c6;go_wp2_with fail
   refine(d9.out p _ N (c9.out.trans (c7.out.mono (by omega))) d4.out).mono ?_;rintro e wc ⟨za,zc,rfl,iz,b7⟩;have c8:Hid (Below wr.heap.size wr wc):=c7.out.trans (b7.mono c7.out.size);have b4:Hid (It wc N (R.at_ b p,.slice xa (R.at_ b p).items.length xc)):=Rd.below b5.out b7;have b6 :Hid (It wc N (R.at_ o p,.slice ya (R.at_ o p).items.length yc)):=Rd.below g5.out b7;have g6:Hid (It wc N (R.at_ t p,.slice za (R.at_ t p).items.length zc)):=Rd.below iz b7;clear iz b7 b5 g5 c7;go_wp2_with fail
   refine(e6.out p xa ya za xc yc zc _ N (g7.out _ c8.out.size) b4.out b6.out g6.out).mono ?_;rintro e wd ⟨ia,ic,rfl,id,i9⟩;have b3:Hid (Below wr.heap.size wr wd):=c8.out.trans (i9.mono c8.out.size);have j7:=z9 id;have l7:=b3.out.size;clear id i9 b4 b6 g6 c8 d7 d8 d9 e6;generalize k9:QU (R.at_ b p) (.slice xa (R.at_ b p).items.length xc)=A1 at*;generalize l0:QU (R.at_ o p) (.slice ya (R.at_ o p).items.length yc)=A2 at*;generalize l3:QU (R.at_ t p) (.slice za (R.at_ t p).items.length zc)=A3 at*;clear k9 l0 l3;have d3:Hid (R.leafJ b o t p=if(R.valJ b o t p).1.kind=0 then []else [{(R.valJ b o t p).1 with path:=p}]):=rfl;have d5:=z9 (f3.out p);unfold QU;clear f3;generalize R.valJ b o t p=vj at*;have h0:Hid (wd.ownsRow w1.heap.size 139 5 (.slice va L.length vc) L.length (zG L)):=Zm HO.out b3.out;have g4:Hid (∀q∈L,It wd N q):=fun q hq=>Rd.below (HI.out q hq) b3.out
   have a2:Hid (Below w1.heap.size w1 wd):=HB.out.trans (b3.out.mono (by omega));clear HO HI HB b3;by_cases he:vj.2=0
   ·have q1:(vj.2 !=0)=false:=by simp[he]
    have HE:=z9 he;by_cases b2:vj.1.kind=0
    ·have q2:(pk vj.1 !=0)=false:=by simp[pk,b2]
     rw[if_pos b2]at d3;clear he b2;go_wp2;go_roundw
     case rel=>
      refine⟨k+1,L,by omega,by go_num,⟨va,vc,rfl⟩,by omega,?_,h0.out.alloc _,fun q hq=> ?_,i3.out HE.out,a2.out.alloc (by omega) _⟩
      ·rw[i1.out,d3.out,List.append_nil];exact e7.out
      ·have:=g4.out q hq
       rw[←g8.out]at this;exact Rd.below this ((j0g _ _).alloc (j0a _) _)
     case measure=>simp[intOf];omega
    ·have q2:(pk vj.1 !=0)=true:=d5.out he b2
     rw[if_neg b2]at d3;clear he b2;go_wp2_with (at_builtin;go_loud (refine UU _ (by rfl) _ _ 93 (by rfl) w1.heap.size 139 (.agg #[.string ⟨#[]⟩,.int .i64 0,.int .i64 0,.string ⟨#[]⟩,.slice none 0 0]) 5 72 Tryz.underlying93 Tryz.info139 (by rfl) (by decide) ((h0.out.alloc _).alloc _) _ 1 1 _ (by rfl) (yG _ _ _) (by rfl) (by rw[aL];rfl) (by intro u hu;simp at hu;rcases hu with rfl|rfl|rfl|rfl|rfl<;>rfl) (by unfold maxLen;omega) (by omega) (by simp;omega) ?_))
     intro v' w5 g1 g0;have j9:=z9 g1;have j4:Hid (Below w1.heap.size w1 w5):=Below.grown' g0 ((a2.out.alloc (by omega) _).alloc (by simp;omega) _) (by simp;omega) (fun g hg=>(f0.out g hg).1);have j6:Hid (∀q∈L++ [({vj.1 with path:=p},.slice ia vj.1.items.length ic)],It w5 (fun b=>M b∨v'.ownBlock=some b) q):=fun q hq=>by
      refine It.grown g0 (by simp) ?_;rw[g8.out];have j0:Below wd.heap.size wd ((wd.alloc (Obj.cells #[.int .i64 (pk vj.1),.int .i64 vj.1.n,.string ⟨vj.1.text.toArray⟩,.slice ia vj.1.items.length ic] 137)).alloc (Obj.cells #[.string ⟨p.toArray⟩,.int .i64 (pk vj.1),.int .i64 vj.1.n,.string ⟨vj.1.text.toArray⟩,.slice ia vj.1.items.length ic] 139)):=((j0g _ _).alloc (j0a _) _).alloc (by simp) _;rcases nJ.1 hq with hq|hq
      ·exact Rd.below (g4.out q hq) j0
      ·rw[iE]at hq
       subst hq;exact Rd.below j7.out j0
     obtain⟨a5,c5,k8,_⟩:=zl g1;subst k8;clear g1 g0;go_wp2;go_roundw
     case rel=>
      refine⟨k+1,L++ [({vj.1 with path:=p},.slice ia vj.1.items.length ic)],by omega,by go_num,⟨a5,c5,by simp⟩,by simp;omega,?_,?_,j6.out,i3.out HE.out,j4.out⟩
      ·rw[rP,i1.out,d3.out,e7.out];rfl
      ·rw[OM,CJ];simpa using j9.out
     case measure=>simp[intOf];omega
   ·have q1:(vj.2 !=0)=true:=by simp[he]
    have HE:=z9 (j5.out he);clear he;go_wp2;go_ret2;rw[HE.out];exact⟨none,0,rfl,⟨[],rfl,⟨none,0,rfl,j0a _,by unfold maxLen;omega,fun h=>absurd h (EL _)⟩,fun q hq=>by cases hq⟩,g3.out.trans ((a2.out.alloc (by omega) _).mono (by omega))⟩
  ·have k3:k=ps.length:=by omega
   subst k3;rw[wN]at hL hz;have HJ:=z9 (a4.out hz);have g2:PT wr M (.slice va L.length vc) (R.outJ b o t ps):=CE hL ho (fun b hb=>by have:=hM b hb;omega) (fun b hb=> .inl hb) hI;have i2:=z9 (fS _ _ wr M g2 (e9.out ps hz));have i0:=z9 g2;have e8:Hid (L.length=(R.outJ b o t ps).length):=by show _=_;rw[←hL,pA]
   clear f6 a6 f5 a3 a4 e9 ho hI hL hz hb g2 d7 d8 d9 e6 f3 e7 HZ HI d4 g7 j8;have HU:Hid (R.endJ (R.outJ b o t ps)=if R.tangled (R.outJ b o t ps)=true then([],7)else if 24<L.length then([],4)else(R.outJ b o t ps,0)):=by show _=_;rw[e8.out];rfl
   generalize R.outJ b o t ps=ot at*;go_wp2_with fail
   refine i2.out.mono ?_;rintro e w2 ⟨rfl,f8⟩;have a2:Hid (Below w.heap.size w w2):=c9.out.trans (f8.mono (by omega));have f4:Hid (PT w2 M (.slice va L.length vc) ot):=i0.out.below f8;clear f8 i2 i0;have g9:Hid (PT w2 M (.slice none 0 0) []):=⟨[],rfl,⟨none,0,rfl,j0a _,by unfold maxLen;omega,fun h=>absurd h (EL _)⟩,fun q hq=>by cases hq⟩
   cases b9:R.tangled ot
   ·rw[b9,if_neg (by simp)]at HU
    by_cases i4:24<L.length
    ·rw[if_pos i4]at HU
     clear b9;go_wp2;go_ret2;rw[HJ.out,HU.out];exact⟨none,0,rfl,g9.out,a2.out⟩
    ·rw[if_neg i4]at HU
     clear b9;go_wp2;go_ret2;rw[HJ.out,HU.out];refine⟨va,vc,?_,?_,a2.out⟩
     ·show _=Ending.returned (.tuple #[.slice va ot.length vc,.int .i64 0])
      rw[←e8.out];rfl
     ·show PT w2 M (.slice va ot.length vc) ot
      rw[←e8.out];exact f4.out
   ·rw[b9,if_pos rfl]at HU
    clear b9;go_wp2;go_ret2;rw[HJ.out,HU.out];exact⟨none,0,rfl,g9.out,a2.out⟩
theorem Ua {w:World}{base:Nat}{e:TypeId}{size:Nat}{v:Value}{n:Nat}{xs:List Value}(h:w.ownsRow base e size v n xs)(os:Array Obj):(Sort.grow w os).ownsRow base e size v n xs:=by
 refine⟨h.1,?_⟩;rcases h.2 with h|⟨g,cap,a0,h1,h2,h3,h4⟩
 ·exact .inl h
 ·refine .inr ⟨g,cap,a0,h1,h2,?_,h4⟩
  have hg:=(Array.getElem?_eq_some_iff.1 h3).1;rw[←h3];show(w.heap++os)[g]? =_;rw[H8 hg]
theorem OP {B:Nat}{w0 w:World}(h:Below B w0 w)(os:Array Obj)(hB:B≤w.heap.size):Below B w0 (Sort.grow w os):=
 ⟨h.os,h.tape,h.output,j0f h.size (by show _≤(w.heap++os).size;simp),fun k hk=>by
  rw[←h.block k hk];show(w.heap++os)[k]? =_;rw[H8 (by omega)]⟩
theorem Gy (l:List (List UInt8)):l.map S=l.map Go.Proofs.encStr:=rfl
theorem Ct {base:Nat}{w0 w:World}{v:Value}{l:List (List UInt8)}(hB:base≤w.heap.size)(hb:Below base w0 w)(hl:l.length≤100000)(h:w.ownsRow base 9 1 v l.length (l.map S)):
  Calls rJ 183 #[v] w fun e w' =>e= .returned (.tuple #[])∧Below base w0 w' ∧w'.ownsRow base 9 1 v l.length ((l.mergeSort fun x y=>decide (x≤y)).map S):=by
 by_cases hv:v= .slice none 0 0
 ·subst hv
  have h0:l=[]:=by
   rcases h.2 with⟨_,h0⟩|⟨g,cap,a1,e,_⟩
   ·exact sV.1 h0
   ·cases e
  subst h0;exact(Tryz.slices_Sort_string_none none 0 w).mono fun e w' ⟨h1,h2⟩=>⟨h1,by rw[h2];exact hb,by rw[h2];simpa using h⟩
 ·rw[Gy]at h
  obtain⟨g,cap,rfl,hg,a0,hn,hm,_,hH⟩:=H9 h hv;refine(Tryz.slices_Sort_string g 0 cap l w hH a0 (by omega)).mono ?_;rintro e w' ⟨rfl,q,os,rfl⟩;have hs:(l.mergeSort fun x y=>decide (x≤y)).length=l.length:=H7 ..;have h1:=I0 (q:=q) (k:=l.length) (ys:=l.mergeSort fun x y=>decide (x≤y)) h hs (j0a _);rw[mG (by omega)]at h1;exact⟨rfl,OP (I1 (q:=q) hb hg) os (by simpa[Sort.putRow,Sort.mapBlock,Sort.ahead]using hB),Ua h1 os⟩
theorem gz {base:Nat}{w0 w:World}{v:Value}{l:List (List UInt8)}(hb:Below base w0 w)(hl:l.length≤100000)(h:w.ownsRow base 9 1 v l.length (l.map S)):
  Calls rJ 184 #[v] w fun e w' =>∃a c,e= .returned (.slice a (pN l).length c)∧Below base w0 w' ∧w'.ownsRow base 9 1 (.slice a (pN l).length c) (pN l).length ((pN l).map S):=by
 by_cases hv:v= .slice none 0 0
 ·subst hv
  have h0:l=[]:=by
   rcases h.2 with⟨_,h0⟩|⟨g,cap,a0,e,_⟩
   ·exact sV.1 h0
   ·cases e
  subst h0;exact(Tryz.slices_Compact_string_empty none 0 w).mono fun e w' ⟨h1,h2⟩=>⟨none,0,h1,by rw[h2];exact hb,by rw[h2];exact h⟩
 ·rw[Gy]at h
  obtain⟨g,cap,rfl,hg,a1,hn,hm,_,hH⟩:=H9 h hv;refine(Tryz.slices_Compact_string g 0 cap l w hH (by omega) hn).mono ?_;rintro e w' ⟨rfl,q,rfl⟩;have hc:=H6 l;have h1:=I0 (q:=q) (k:=(pN l).length) (ys:=pN l++rU (l.length-(pN l).length) []) h (by simp;omega) hc;rw[I2 rfl]at h1;exact⟨_,cap,rfl,I1 (q:=q) hb hg,h1⟩
theorem Og (ba oa ta:Option Addr)(bc oc tc:Nat)(b o t:List R.Leaf)(w:World)(M:Nat→Prop)(hM:∀b,M b→b<w.heap.size)(hb:PT w M (.slice ba b.length bc) b)(ho:PT w M (.slice oa o.length oc) o)(ht:PT w M (.slice ta t.length tc) t)(a0:OkT b)(a1:OkT o)(a2:OkT t):
  Calls rJ 87 #[.slice ba b.length bc,.slice oa o.length oc,.slice ta t.length tc] w fun e w' =>∃va vc,e= .returned (.tuple #[.slice va (R.joinT b o t).1.length vc,.int .i64 (R.joinT b o t).2])∧PT w' M (.slice va (R.joinT b o t).1.length vc) (R.joinT b o t).1∧Below w.heap.size w w' :=by
 refine fU ba oa ta bc oc tc b o t w M hM hb ho ht a0 a1 a2 fun W b0 hW a3 c0 c1 c2=> ?_
 have e:y7 [b,o,t]=(b++(o++t)).map R.Leaf.path:=by simp[y7]
 have hn:(y7 [b,o,t]).length≤1000:=by
  rw[e];have:=a0.few;have:=a1.few;have:=a2.few;simp only[pA,mB];omega
 have:=cI b0 3 [b,o,t] W M (by simp) hn a3 (fun j hj=>by
  match j,hj with
  |0,_=>exact⟨ba,bc,c0,hb.below hW⟩
  |1,_=>exact⟨oa,oc,c1,ho.below hW⟩
  |2,_=>exact⟨ta,tc,c2,ht.below hW⟩) (fun W1 v h1 h2=>Ct h1.size h1 (by omega) h2) (fun W1 v h1 h2=>by
   have hl:((y7 [b,o,t]).mergeSort fun x y=>decide (x≤y)).length=(y7 [b,o,t]).length:=H7 ..;have h3:=gz (l:=(y7 [b,o,t]).mergeSort fun x y=>decide (x≤y)) h1 (by omega) (by rw[hl];exact h2);exact h3)
 rw[e,JZ a0 a1 a2]at this;exact this
def Zv (n:Nat):Value:= .int .i64 (n:Int)
structure UO (W:World)(B b tc:Nat)(l:List Nat):Prop where
 c0:W.cell? ⟨B,0,none⟩=some (.slice (some ⟨b,0,none⟩) l.length tc)
 cs:∀j (h:j<l.length),W.cell? ⟨b,j,none⟩=some (Zv l[j])
theorem UO.move {W W' :World}{B b tc:Nat}{l:List Nat}(h:UO W B b tc l)(h1:∀p:Addr,p.block=B→W'.cell? p=W.cell? p)(h2:∀p:Addr,p.block=b→W'.cell? p=W.cell? p):UO W' B b tc l:=
 ⟨(h1 _ rfl).trans h.c0,fun j hj=>(h2 ⟨b,j,none⟩ rfl).trans (h.cs j hj)⟩
theorem ke (l:List Nat)(m:Nat):((l.map fun n:Nat=>(n:Int)).take l.length).contains (m:Int)=decide (m∈l):=by
 rw[mG (by simp),sS,List.contains_iff_mem,decide_eq_true_eq,List.mem_map];constructor
 ·rintro⟨n,hn,e⟩
  have:n=m:=by exact_mod_cast e
  rw[←this];exact hn
 ·exact fun h=>⟨m,h,rfl⟩
theorem K8 {W:World}{B b tc:Nat}{l:List Nat}(h:UO W B b tc l)(hl:l.length≤100)(m:Nat):
  Calls rJ 84 #[.slice (some ⟨b,0,none⟩) l.length tc,.int .i64 (m:Int)] W fun e w' =>e= .returned (.bool (decide (m∈l)))∧w' =W:=by
 have:=Tryz.slices_Contains_int b 0 l.length tc (l.map fun n:Nat=>(n:Int)) m W (by simp) (by omega) (fun j hj=>by
  have a0 :j<l.length:=by simpa using hj
  rw[Nat.zero_add,h.cs j a0];simp[Zv,List.getD_eq_getElem?_getD,a0])
 rw[ke]at this;exact this
theorem F5 {W:World}{B b tc:Nat}{l:List Nat}(h:UO W B b tc l)(hl:l.length≤100)(m:Nat):
  Calls rJ 234 #[.int .i64 (m:Int),.pointer (some ⟨B,0,none⟩)] W fun e w' =>e= .returned (.bool (!decide (m∈l)))∧w' =W:=by
 have HC:=z9 (K8 h hl m);have c0:=h.c0;clear h;go_enter Tryz.func234,Tryz.ntmps234;go_wp2_with fail
 refine HC.out.mono ?_;rintro e w1 ⟨rfl,rfl⟩;go_wp2;go_ret;exact⟨rfl,rfl⟩
theorem F4 {W:World}{B b tc:Nat}{l:List Nat}(h:UO W B b tc l)(hl:l.length≤100)(m:Nat):
  Calls rJ 204 #[.int .i64 (m:Int),.pointer (some ⟨B,0,none⟩)] W fun e w' =>e= .returned (.bool (decide (m∈l)))∧w' =W:=by
 have HC:=z9 (K8 h hl m);have c0:=h.c0;clear h;go_enter Tryz.func204,Tryz.ntmps204;go_wp2_with fail
 refine HC.out.mono ?_;rintro e w1 ⟨rfl,rfl⟩;go_wp2;go_ret;exact⟨rfl,rfl⟩
theorem FH (g:Nat)(eg:∀args w,(callFunc g args).run rJ w= .ok (.enter g args) w)(p:Nat→Bool){B b tc:Nat}{l2:List Nat}
  (a1:∀W,UO W B b tc l2→∀m:Nat,Calls rJ g #[.int .i64 (m:Int),.pointer (some ⟨B,0,none⟩)] W fun e w' =>e= .returned (.bool (p m))∧w' =W)
  {w:World}{base:Nat}{v:Value}{l:List Nat}(ho:w.ownsRow base 3 1 v l.length (l.map Zv))(a0:v≠ .slice none 0 0)(hT:UO w B b tc l2)(hB:B<w.heap.size)(hb:b<w.heap.size)(a4:v.ownBlock≠some B)(a5:v.ownBlock≠some b)(hl:l.length≤100):
  Calls rJ 203 #[v,.func (.func g) #[] #[.pointer (some ⟨B,0,none⟩)]] w fun e w' =>∃gb vc,e= .returned (.slice (some ⟨gb,0,none⟩) (l.filter fun m=> !p m).length vc)∧v.ownBlock=some gb∧w'.ownsRow base 3 1 (.slice (some ⟨gb,0,none⟩) (l.filter fun m=> !p m).length vc) (l.filter fun m=> !p m).length ((l.filter fun m=> !p m).map Zv)∧ze (fun b=>v.ownBlock=some b) w w' :=by
 obtain⟨gb,cap,rfl,hg,a6,hn,hm,_,hH⟩:=H9 ho a0;have h1:gb≠B:=fun e=>a4 (by rw[e];rfl)
 have h2:gb≠b:=fun e=>a5 (by rw[e];rfl)
 have hO:OneCell Zv:=fun _=>rfl
 have a2:PredAt rJ g #[.pointer (some ⟨B,0,none⟩)] Zv p w:=fun W x hW=>
  (a1 W (hT.move (fun q hq=>hW.cell (by rw[hq];exact hB)) (fun q hq=>hW.cell (by rw[hq];exact hb))) x).mono fun e w' ⟨e1,e2⟩=>⟨e1,0,e2⟩
 have a3:PredOver rJ g #[.pointer (some ⟨B,0,none⟩)] Zv p gb 0 l.toArray.size w:=fun n os dk x hd=>by
  refine(a1 _ (hT.move (fun q hq=> ?_) (fun q hq=> ?_)) x).mono fun e w' ⟨e1,e2⟩=>⟨e1,0,e2⟩
  ·show(Sort.grow (Sort.putRow Zv (Sort.ahead w n) gb 0 dk) os).cell? q=w.cell? q
   rw[Sort.cell?_grow _ _ _ (by simp[hq,hB]),Sort.cell?_putRow_other _ _ _ _ _ _ (.inl (by rw[hq];exact fun e=>h1 e.symm))];rfl
  ·show(Sort.grow (Sort.putRow Zv (Sort.ahead w n) gb 0 dk) os).cell? q=w.cell? q
   rw[Sort.cell?_grow _ _ _ (by simp[hq,hb]),Sort.cell?_putRow_other _ _ _ _ _ _ (.inl (by rw[hq];exact fun e=>h2 e.symm))];rfl
 have:=Tryz.slices_DeleteFunc Zv hO p g #[.pointer (some ⟨B,0,none⟩)] eg 0 (fun _=>by kernel_rfl) gb 0 cap l.toArray w a2 a3 hH (by simp;omega) (by simpa using hn);simp only[List.size_toArray]at this;refine this.mono ?_;rintro e w' ⟨rfl,q,rfl⟩;have hf:(l.filter fun m=> !p m).length≤l.length:=List.length_filter_le _ _;have h3:=I0 (q:=q) (k:=(l.filter fun m=> !p m).length) (ys:=(l.filter fun m=> !p m)++rU (l.length-(l.filter fun m=> !p m).length) 0) ho (by simp;omega) hf;rw[I2 rfl]at h3;refine⟨_,cap,rfl,rfl,h3,rfl,rfl,rfl,by simp,fun k hk a0=> ?_⟩;have:gb≠k:=fun e=>a0 (by rw[e];rfl)
 simp[Sort.putRow,Sort.mapBlock,Sort.ahead,iV,this]
theorem oX (l:List Nat):l.map Zv=(l.map fun n:Nat=>(n:Int)).map (Value.int .i64):=by rw[aE];rfl
theorem bZ {base:Nat}{w:World}{v:Value}{l:List Nat}(hl:l.length≤100)(ho:w.ownsRow base 3 1 v l.length (l.map Zv)):
  Calls rJ 205 #[v] w fun e w' =>e= .returned (.tuple #[])∧w'.ownsRow base 3 1 v l.length (l.reverse.map Zv)∧ze (fun b=>v.ownBlock=some b) w w' :=by
 by_cases hv:v= .slice none 0 0
 ·subst hv
  have h0:l=[]:=by
   rcases ho.2 with⟨_,h0⟩|⟨g,cap,a1,e,_⟩
   ·exact sV.1 h0
   ·cases e
  subst h0;exact(Tryz.slices_Reverse_int_empty none 0 w).mono fun e w' ⟨h1,h2⟩=>⟨h1,by rw[h2];exact ho,by rw[h2];exact ze.refl _ _⟩
 ·rw[oX]at ho
  obtain⟨gb,cap,rfl,hg,a2,hn,hm,_,hH⟩:=H9 ho hv;have:=Tryz.slices_Reverse_int gb 0 cap (l.map fun n:Nat=>(n:Int)) w hH (by simp;omega);rw[pA]at this;refine this.mono ?_;rintro e w' ⟨rfl,q,rfl⟩;have h3:=I0 (q:=q) (k:=l.length) (ys:=(l.map fun n:Nat=>(n:Int)).reverse) ho (by simp) (j0a _);rw[mG (by simp)]at h3;have h4:(l.map fun n:Nat=>(n:Int)).reverse.map (Value.int .i64)=l.reverse.map Zv:=by rw[oX];simp only[List.map_reverse]
  rw[h4]at h3;refine⟨rfl,h3,rfl,rfl,rfl,by simp,fun k hk a0=> ?_⟩;have:gb≠k:=fun e=>a0 (by rw[e];rfl)
  simp[Sort.putRow,Sort.mapBlock,Sort.ahead,iV,this]
