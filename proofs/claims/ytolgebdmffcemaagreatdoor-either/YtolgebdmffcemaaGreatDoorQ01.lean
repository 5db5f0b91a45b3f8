import GoSem.Step
import Derived.Laws.Sem
set_option linter.all false
set_option maxHeartbeats 20000000
set_option maxRecDepth 1000000
open Go.Builtin renaming holdsCells→dU,lenOf→dV,mayShare→dW,cap_→dX,len_→dY,max2→dZ,min2→eA,printOne→eB,firstCells→eC,clear_→eD,max_→eE,min_→eF,pieces→eG,append_→eH,copy_→eI,delete_→eJ
namespace Go.Proofs.YtolgebdmffcemaaGreatDoor
open Go
def kz:Halt→Prop
 | .panic _| .fatal _| .throw _| .unsupported _| .stuck _=>True
 |_=>False
def QH:Halt→Prop
 | .stuck _=>True
 | .unsupported (.initOrder _)=>False
 | .unsupported _=>True
 |_=>False
def c9 (m:Mark):Prop:=m≠ .disable∧m≠ .enable
def z4 (P:Program){α:Type}(F:α→Prop):Sem α→Prop
 | .pure a=>F a
 | .load _ _ k=>∀v,z4 P F (k v)
 | .store _ _ _ k=>z4 P F k
 | .new _ k=>∀r,z4 P F (k r)
 | .shape _ k=>∀s,z4 P F (k s)
 | .freeze _ _ k=>z4 P F k
 | .frozen _ k=>∀b,z4 P F (k b)
 | .getObj _ k=>∀o,z4 P F (k o)
 | .setObj _ _ k=>z4 P F k
 | .choose _ k=>∀n,z4 P F (k n)
 | .sys _ k=>(∃h,k .wouldBlock= .halt h∧QH h)∧∀r,z4 P F (k r)
 | .program k=>z4 P F (k P)
 | .mark m k=>c9 m∧z4 P F k
 | .halt h=>kz h
def Any {α:Type}(_:α):Prop:=True
section
variable {P:Program}{α β:Type}
theorem z4.mono {F G:α→Prop}(h:∀a,F a→G a):∀{s:Sem α},z4 P F s→z4 P G s:=by
 intro s;induction s with
 |pure a=>exact h a
 |load m a k ih=>exact fun x v=>ih v (x v)
 |store m a v k ih=>exact ih
 |new o k ih=>exact fun x v=>ih v (x v)
 |shape r k ih=>exact fun x v=>ih v (x v)
 |freeze a n k ih=>exact ih
 |frozen a k ih=>exact fun x v=>ih v (x v)
 |getObj r k ih=>exact fun x v=>ih v (x v)
 |setObj r o k ih=>exact ih
 |choose q k ih=>exact fun x v=>ih v (x v)
 |sys c k ih=>exact fun x=>⟨x.1,fun r=>ih r (x.2 r)⟩
 |program k ih=>exact ih P
 |mark m k ih=>exact fun x=>⟨x.1,ih x.2⟩
 |halt x=>exact id
theorem z4.bind' {F:α→Prop}{G:β→Prop}{f:α→Sem β}(hf:∀a,F a→z4 P G (f a)):∀{s:Sem α},z4 P F s→z4 P G (s.bind f):=by
 intro s;induction s with
 |pure a=>exact hf a
 |load m a k ih=>exact fun x v=>ih v (x v)
 |store m a v k ih=>exact ih
 |new o k ih=>exact fun x v=>ih v (x v)
 |shape r k ih=>exact fun x v=>ih v (x v)
 |freeze a n k ih=>exact ih
 |frozen a k ih=>exact fun x v=>ih v (x v)
 |getObj r k ih=>exact fun x v=>ih v (x v)
 |setObj r o k ih=>exact ih
 |choose q k ih=>exact fun x v=>ih v (x v)
 |sys c k ih=>exact fun x=>⟨let⟨h,h1,h2⟩:=x.1;⟨h,by show(k .wouldBlock).bind f=_;rw[h1];rfl,h2⟩,fun r=>ih r (x.2 r)⟩
 |program k ih=>exact ih P
 |mark m k ih=>exact fun x=>⟨x.1,ih x.2⟩
 |halt x=>exact id
theorem z4.bind {F:α→Prop}{G:β→Prop}{f:α→Sem β}{s:Sem α}(hs:z4 P F s)(hf:∀a,F a→z4 P G (f a)):z4 P G (s>>=f):=z4.bind' hf hs
theorem z4.bind0 {G:β→Prop}{f:α→Sem β}{s:Sem α}(hs:z4 P Any s)(hf:∀a,z4 P G (f a)):z4 P G (s>>=f):=z4.bind' (fun a _=>hf a) hs
theorem z4.map0 {f:α→β}{s:Sem α}(hs:z4 P Any s):z4 P Any (f<$>s):=by
 have h:(f<$>s)=s>>=fun a=>Pure.pure (f a):=by simp
 rw[h];exact z4.bind0 hs fun _=>by exact trivial
theorem z4.forInList {γ:Type}(f:α→γ→Sem (ForInStep γ))(h:∀a s,z4 P Any (f a s)):∀(l:List α) (a0:γ),z4 P Any (forIn l a0 f)
 |[],a0=>by simp only[List.forIn_nil];trivial
 |a::l,a0=>by
  simp only[List.forIn_cons];refine z4.bind0 (h a a0) (fun r=> ?_)
  cases r with
  |done b=>trivial
  |yield b=>exact z4.forInList f h l b
theorem z4.forInArray {γ:Type}(f:α→γ→Sem (ForInStep γ))(h:∀a s,z4 P Any (f a s))(l:Array α)(a0:γ):z4 P Any (forIn l a0 f):=by
 rw[←Array.forIn_toList];exact z4.forInList f h l.toList a0
theorem z4.forInRange {γ:Type}(f:Nat→γ→Sem (ForInStep γ))(h:∀a s,z4 P Any (f a s))(r:Std.Legacy.Range)(a0:γ):z4 P Any (forIn r a0 f):=by
 rw[Std.Legacy.Range.forIn_eq_forIn_range'];exact z4.forInList f h _ a0
theorem z4.mapMLoop (f:α→Sem β)(h:∀a,z4 P Any (f a)):∀(l:List α) (a0:List β),z4 P Any (List.mapM.loop f l a0)
 |[],a0=>trivial
 |a::l,a0=>by
  unfold List.mapM.loop;exact z4.bind0 (h a) fun b=>z4.mapMLoop f h l (b::a0)
theorem z4.mapMList (f:α→Sem β)(h:∀a,z4 P Any (f a))(l:List α):z4 P Any (l.mapM f):=z4.mapMLoop f h l []
theorem z4.mapMArray (f:α→Sem β)(h:∀a,z4 P Any (f a))(as:Array α):z4 P Any (as.mapM f):=by
 rw[Array.mapM_eq_mapM_toList];exact z4.map0 (z4.mapMList f h as.toList)
theorem z4.ite {c:Prop} [Decidable c] {F:α→Prop}{x y:Sem α}(h1:c→z4 P F x)(h2:¬c→z4 P F y):z4 P F (if c then x else y):=by
 by_cases h:c
 ·rw[if_pos h];exact h1 h
 ·rw[if_neg h];exact h2 h
theorem z4.foldlMList {γ:Type}(f:γ→α→Sem γ)(h:∀a s,z4 P Any (f s a)):∀(l:List α) (a0:γ),z4 P Any (l.foldlM f a0)
 |[],_=>trivial
 |a::l,a0=>by
  rw[List.foldlM_cons];exact z4.bind0 (h a a0) fun b=>z4.foldlMList f h l b
theorem z4.forInList' {γ:Type}:∀(l:List α) (f:(a:α)→a∈l→γ→Sem (ForInStep γ)) (_:∀a h s,z4 P Any (f a h s)) (a0:γ),z4 P Any (forIn' l a0 f)
 |[],f,h,a0=>by simp only[List.forIn'_nil];trivial
 |a::l,f,h,a0=>by
  simp only[List.forIn'_cons];refine z4.bind0 (h a _ a0) (fun r=> ?_)
  cases r with
  |done b=>trivial
  |yield b=>exact z4.forInList' l _ (fun a h' s=>h a _ s) b
theorem z4.forInRange' {γ:Type}(r:Std.Legacy.Range)(f:(a:Nat)→a∈r→γ→Sem (ForInStep γ))(h:∀a h s,z4 P Any (f a h s))(a0:γ):z4 P Any (forIn' r a0 f):=by
 rw[Std.Legacy.Range.forIn'_eq_forIn'_range'];exact z4.forInList' _ _ (fun a h' s=>h a _ s) a0
theorem ZJ {F:α→Prop}(s:String):z4 P F (stuck s:Sem α):=trivial
theorem zr {F:α→Prop}(u:Unsupported):z4 P F (unsupported u:Sem α):=trivial
theorem Ug:z4 P (·=P) (program:Sem Program):=rfl
theorem yD (a:Addr)(m:Mode):z4 P Any (load a m):=fun _=>trivial
theorem ZY (a:Addr)(v:Value)(m:Mode):z4 P Any (store a v m):=trivial
theorem yq (o:Obj):z4 P Any (newObj o):=fun _=>trivial
theorem yt (a:Addr):z4 P Any (frozen a):=fun _=>trivial
theorem Zi (q:Question):z4 P Any (choose q):=fun _=>trivial
theorem fv (m:Mark)(h:c9 m):z4 P Any (mark m):=⟨h,trivial⟩
theorem zi:z4 P Any (mark .noRoom):=⟨⟨by simp,by simp⟩,trivial⟩
theorem zR:z4 P Any (program:Sem Program):=trivial
end
theorem zt {P:Program}:(∀a6,z4 P Any (askRoom a6))∧
  (∀r,z4 P Any (viewAt r))∧
  (∀r,z4 P Any (numberAt r))∧
  (∀r,z4 P Any (cellsIn r))∧
  (∀a a8,z4 P Any (asNumber a a8))∧
  (∀a,z4 P Any (markStringish a))∧
  (∀a,z4 P Any (stringish a))∧
  (∀t,z4 P Any (typeInfo t))∧
  (∀t,z4 P Any (underlying t))∧
  (∀name,z4 P Any (cutType name))∧
  (∀name,z4 P Any (globalAddr name))∧
  (∀a7 a1,z4 P Any (newRow a7 a1))∧
  (∀{α:Type} (b1:String),z4 P Any (Go.panicString b1:Sem α))∧
  (∀y1,z4 P Any (asIntOf y1))∧
  (∀y1,z4 P Any (asBool y1))∧
  (∀y1,z4 P Any (asString y1))∧
  (∀y1,z4 P Any (asAgg y1))∧
  (∀a u n,z4 P Any (variablesAt a u n))∧
  (∀k a n,z4 P Any (intVariablesAt k a n))∧
  (∀op k x y,z4 P Any (Op.floatArith op k x y))∧
  (∀op k x y,z4 P Any (Op.floatCmp op k x y))∧
  (∀op k x y,z4 P Any (Op.intArith op k x y))∧
  (∀op k x y,z4 P Any (Op.intBits op k x y))∧
  (∀op x y,z4 P Any (Op.intCmp op x y))∧
  (∀op x y,z4 P Any (Op.stringOp op x y))∧
  (∀a9 a3 a4,z4 P Any (Conv.floatToFloat a9 a3 a4))∧
  (∀a9 a3 a4,z4 P Any (Conv.floatToInt a9 a3 a4))∧
  (∀a4 n,z4 P Any (Conv.intToFloat a4 n))∧
  (∀a4 n,z4 P Any (Conv.intToInt a4 n))∧
  (∀n,z4 P Any (Conv.intToString n))∧
  (∀a a1,z4 P Any (dU a a1))∧
  (∀y1,z4 P Any (dV y1))∧
  (∀y1,z4 P Any (Instr.sureAddr y1))∧
  (∀a5,z4 P Any (Instr.entry a5))∧
  (∀fn first a0,z4 P Any (Instr.makeFunc fn first a0))∧
  (∀b2 new,z4 P Any (Instr.keyThatStays b2 new))∧
  (∀a5 a2 _type,z4 P Any (Instr.next a5 a2 _type))∧
  (∀l,z4 P Any (Instr.getLoop l))∧
  (∀block,z4 P Any (Instr.takeDeferred block))∧
  (∀g,z4 P Any (Instr.waits g))∧
  (∀g,z4 P Any (Instr.ready g)):=by
 refine⟨?_,?_,?_,?_,?_,?_,?_,?_,?_,?_,?_,?_,?_,?_,?_,?_,?_,?_,?_,?_,?_,?_,?_,?_,?_,?_,?_,?_,?_,?_,?_,?_,?_,?_,?_,?_,?_,?_,?_,?_,?_⟩<;>intros<;>(first|unfold Go.askRoom|unfold Go.viewAt|unfold Go.numberAt|unfold Go.cellsIn|unfold Go.asNumber|unfold Go.markStringish|unfold Go.stringish|unfold Go.typeInfo|unfold Go.underlying|unfold Go.cutType|unfold Go.globalAddr|unfold Go.newRow|unfold Go.panicString|unfold Go.asIntOf|unfold Go.asBool|unfold Go.asString|unfold Go.asAgg|unfold Go.variablesAt|unfold Go.intVariablesAt|unfold Go.Op.floatArith|unfold Go.Op.floatCmp|unfold Go.Op.intArith|unfold Go.Op.intBits|unfold Go.Op.intCmp|unfold Go.Op.stringOp|unfold Go.Conv.floatToFloat|unfold Go.Conv.floatToInt|unfold Go.Conv.intToFloat|unfold Go.Conv.intToInt|unfold Go.Conv.intToString|unfold Go.Builtin.holdsCells|unfold Go.Builtin.lenOf|unfold Go.Instr.sureAddr|unfold Go.Instr.entry|unfold Go.Instr.makeFunc|unfold Go.Instr.keyThatStays|unfold Go.Instr.next|unfold Go.Instr.getLoop|unfold Go.Instr.takeDeferred|unfold Go.Instr.waits|unfold Go.Instr.ready)
 all_goals
  repeat' (first|exact trivial|exact fun _=>trivial|with_reducible (first|assumption|exact zi|apply z4.bind0|apply z4.map0|apply z4.forInArray|apply z4.forInRange|apply z4.forInList|apply z4.mapMArray|apply z4.mapMList|apply z4.foldlMList|apply z4.forInRange' |apply z4.ite|intro _)|split|dsimp only)
theorem Vw {P}(bytes):z4 P Any (askRoom bytes):=zt.1 _
theorem Xj {P}(r):z4 P Any (viewAt r):=zt.2.1 _
theorem v6 {P}(r):z4 P Any (numberAt r):=zt.2.2.1 _
theorem Uk {P}(r):z4 P Any (cellsIn r):=zt.2.2.2.1 _
theorem vd {P}(a)(lost):z4 P Any (asNumber a lost):=zt.2.2.2.2.1 _ _
theorem yW {P}(a):z4 P Any (markStringish a):=zt.2.2.2.2.2.1 _
theorem jH {P}(a):z4 P Any (stringish a):=zt.2.2.2.2.2.2.1 _
theorem Za {P}(t):z4 P Any (typeInfo t):=zt.2.2.2.2.2.2.2.1 _
theorem zj {P}(t):z4 P Any (underlying t):=zt.2.2.2.2.2.2.2.2.1 _
theorem KE {P}(name):z4 P Any (globalAddr name):=zt.2.2.2.2.2.2.2.2.2.2.1 _
theorem YS {P}(elem)(cells):z4 P Any (newRow elem cells):=zt.2.2.2.2.2.2.2.2.2.2.2.1 _ _
theorem qm {P}(y1):z4 P Any (asIntOf y1):=zt.2.2.2.2.2.2.2.2.2.2.2.2.2.1 _
theorem Km {P}(y1):z4 P Any (asBool y1):=zt.2.2.2.2.2.2.2.2.2.2.2.2.2.2.1 _
theorem YK {P}(y1):z4 P Any (asString y1):=zt.2.2.2.2.2.2.2.2.2.2.2.2.2.2.2.1 _
theorem jK {P}(y1):z4 P Any (asAgg y1):=zt.2.2.2.2.2.2.2.2.2.2.2.2.2.2.2.2.1 _
theorem Yt {P}(a)(u)(n):z4 P Any (variablesAt a u n):=zt.2.2.2.2.2.2.2.2.2.2.2.2.2.2.2.2.2.1 _ _ _
theorem QL {P}(k)(a)(n):z4 P Any (intVariablesAt k a n):=zt.2.2.2.2.2.2.2.2.2.2.2.2.2.2.2.2.2.2.1 _ _ _
theorem xP {P}(op)(k)(x)(y):z4 P Any (Op.floatArith op k x y):=zt.2.2.2.2.2.2.2.2.2.2.2.2.2.2.2.2.2.2.2.1 _ _ _ _
theorem XG {P}(op)(k)(x)(y):z4 P Any (Op.floatCmp op k x y):=zt.2.2.2.2.2.2.2.2.2.2.2.2.2.2.2.2.2.2.2.2.1 _ _ _ _
theorem jM {P}(op)(x)(y):z4 P Any (Op.intCmp op x y):=zt.2.2.2.2.2.2.2.2.2.2.2.2.2.2.2.2.2.2.2.2.2.2.2.1 _ _ _
theorem XF {P}(op)(x)(y):z4 P Any (Op.stringOp op x y):=zt.2.2.2.2.2.2.2.2.2.2.2.2.2.2.2.2.2.2.2.2.2.2.2.2.1 _ _ _
theorem Yd {P}(src)(bits)(dst):z4 P Any (Conv.floatToFloat src bits dst):=zt.2.2.2.2.2.2.2.2.2.2.2.2.2.2.2.2.2.2.2.2.2.2.2.2.2.1 _ _ _
theorem Q0 {P}(src)(bits)(dst):z4 P Any (Conv.floatToInt src bits dst):=zt.2.2.2.2.2.2.2.2.2.2.2.2.2.2.2.2.2.2.2.2.2.2.2.2.2.2.1 _ _ _
theorem XQ {P}(a)(cells):z4 P Any (dU a cells):=zt.2.2.2.2.2.2.2.2.2.2.2.2.2.2.2.2.2.2.2.2.2.2.2.2.2.2.2.2.2.2.1 _ _
theorem vJ {P}(y1):z4 P Any (dV y1):=zt.2.2.2.2.2.2.2.2.2.2.2.2.2.2.2.2.2.2.2.2.2.2.2.2.2.2.2.2.2.2.2.1 _
theorem yI {P}(y1):z4 P Any (Instr.sureAddr y1):=zt.2.2.2.2.2.2.2.2.2.2.2.2.2.2.2.2.2.2.2.2.2.2.2.2.2.2.2.2.2.2.2.2.1 _
theorem kL {P}(iter):z4 P Any (Instr.entry iter):=zt.2.2.2.2.2.2.2.2.2.2.2.2.2.2.2.2.2.2.2.2.2.2.2.2.2.2.2.2.2.2.2.2.2.1 _
theorem QO {P}(fn)(first)(captured):z4 P Any (Instr.makeFunc fn first captured):=zt.2.2.2.2.2.2.2.2.2.2.2.2.2.2.2.2.2.2.2.2.2.2.2.2.2.2.2.2.2.2.2.2.2.2.1 _ _ _
theorem XJ {P}(old)(new):z4 P Any (Instr.keyThatStays old new):=zt.2.2.2.2.2.2.2.2.2.2.2.2.2.2.2.2.2.2.2.2.2.2.2.2.2.2.2.2.2.2.2.2.2.2.2.1 _ _
theorem KK {P}(iter)(isString)(_type):z4 P Any (Instr.next iter isString _type):=zt.2.2.2.2.2.2.2.2.2.2.2.2.2.2.2.2.2.2.2.2.2.2.2.2.2.2.2.2.2.2.2.2.2.2.2.2.1 _ _ _
theorem yY {P}(l):z4 P Any (Instr.getLoop l):=zt.2.2.2.2.2.2.2.2.2.2.2.2.2.2.2.2.2.2.2.2.2.2.2.2.2.2.2.2.2.2.2.2.2.2.2.2.2.1 _
theorem Y5 {P}(block):z4 P Any (Instr.takeDeferred block):=zt.2.2.2.2.2.2.2.2.2.2.2.2.2.2.2.2.2.2.2.2.2.2.2.2.2.2.2.2.2.2.2.2.2.2.2.2.2.2.1 _
theorem kH {P}(g):z4 P Any (Instr.waits g):=zt.2.2.2.2.2.2.2.2.2.2.2.2.2.2.2.2.2.2.2.2.2.2.2.2.2.2.2.2.2.2.2.2.2.2.2.2.2.2.2.1 _
theorem kJ {P}(g):z4 P Any (Instr.ready g):=zt.2.2.2.2.2.2.2.2.2.2.2.2.2.2.2.2.2.2.2.2.2.2.2.2.2.2.2.2.2.2.2.2.2.2.2.2.2.2.2.2 _
theorem vz {P:Program}(a:Addr)(i:Nat)(y1:Nat)(y2:Array Value):z4 P Any (Go.loadCellsFrom a i y1 y2):=by
 induction y1 generalizing i y2 with
 |zero=> ?_
 |succ n ih=> ?_
 all_goals
  unfold Go.loadCellsFrom;repeat' (first|exact trivial|exact fun _=>trivial|with_reducible (first|assumption|exact zi|exact ih _ _|apply z4.bind0|apply z4.map0|apply z4.forInArray|apply z4.forInRange|apply z4.forInList|apply z4.mapMArray|apply z4.mapMList|apply z4.foldlMList|apply z4.forInRange' |apply z4.ite|intro _)|split|dsimp only)
theorem x8 {P:Program}(a:Addr)(vs:List Value)(i:Nat):z4 P Any (Go.storeCells a vs i):=by
 induction vs generalizing i with
 |nil=> ?_
 |cons x l ih=> ?_
 all_goals
  unfold Go.storeCells;repeat' (first|exact trivial|exact fun _=>trivial|with_reducible (first|assumption|exact zi|exact ih _|apply z4.bind0|apply z4.map0|apply z4.forInArray|apply z4.forInRange|apply z4.forInList|apply z4.mapMArray|apply z4.mapMList|apply z4.foldlMList|apply z4.forInRange' |apply z4.ite|intro _)|split|dsimp only)
theorem jJ {P:Program}(a:Addr)(a0:ByteArray)(y1:Nat):z4 P Any (Go.loadBytes a a0 y1):=by
 induction y1 generalizing a a0 with
 |zero=> ?_
 |succ n ih=> ?_
 all_goals
  unfold Go.loadBytes;repeat' (first|exact trivial|exact fun _=>trivial|with_reducible (first|assumption|exact zi|exact ih _ _|apply z4.bind0|apply z4.map0|apply z4.forInArray|apply z4.forInRange|apply z4.forInList|apply z4.mapMArray|apply z4.mapMList|apply z4.foldlMList|apply z4.forInRange' |apply z4.ite|intro _)|split|dsimp only)
theorem qK {P:Program}(_argTypes:Array TypeId)(_type:TypeId)(args:Array Value):z4 P Any (Go.Builtin.complex_ _argTypes _type args):=by
 unfold Go.Builtin.complex_;obtain⟨l⟩:=args;rcases l with _|⟨a,_|⟨b,_|⟨c,l⟩⟩⟩
 ·exact trivial
 ·exact trivial
 ·cases a<;>first|exact trivial|(cases b<;>first|exact trivial|exact z4.ite (fun _=>trivial) (fun _=>trivial))
 ·exact trivial
theorem vK {P:Program}(_argTypes:Array TypeId)(_type:TypeId)(args:Array Value):z4 P Any (Go.Builtin.imag_ _argTypes _type args):=by
 unfold Go.Builtin.imag_;obtain⟨l⟩:=args;rcases l with _|⟨a,_|⟨b,_|⟨c,_|⟨d,l⟩⟩⟩⟩
 all_goals first
  |exact trivial
  |(cases a<;>first|exact trivial|skip)
 all_goals(try rename_i o;cases o)
 all_goals try(first|exact trivial|refine z4.bind0 ?_ (fun _=> ?_)|refine z4.ite (fun _=> ?_) (fun _=> ?_))
 all_goals
  repeat' (first|exact trivial|exact fun _=>trivial|with_reducible (first|assumption|exact zi|apply z4.bind0|apply z4.map0|apply z4.forInArray|apply z4.forInRange|apply z4.forInList|apply z4.mapMArray|apply z4.mapMList|apply z4.foldlMList|apply z4.forInRange' |apply z4.ite|intro _)|split|dsimp only)
theorem vI {P:Program}(_argTypes:Array TypeId)(_type:TypeId)(args:Array Value):z4 P Any (Go.Builtin.real_ _argTypes _type args):=by
 unfold Go.Builtin.real_;obtain⟨l⟩:=args;rcases l with _|⟨a,_|⟨b,_|⟨c,_|⟨d,l⟩⟩⟩⟩
 all_goals first
  |exact trivial
  |(cases a<;>first|exact trivial|skip)
 all_goals(try rename_i o;cases o)
 all_goals try(first|exact trivial|refine z4.bind0 ?_ (fun _=> ?_)|refine z4.ite (fun _=> ?_) (fun _=> ?_))
 all_goals
  repeat' (first|exact trivial|exact fun _=>trivial|with_reducible (first|assumption|exact zi|apply z4.bind0|apply z4.map0|apply z4.forInArray|apply z4.forInRange|apply z4.forInList|apply z4.mapMArray|apply z4.mapMList|apply z4.foldlMList|apply z4.forInRange' |apply z4.ite|intro _)|split|dsimp only)
theorem QM {P:Program}:z4 P Any (Go.Instr.panicnil):=by
 unfold Go.Instr.panicnil;refine⟨⟨_,rfl,trivial⟩,fun r=> ?_⟩
 cases r<;>exact trivial
theorem zE {P:Program}:(∀n,z4 P Any (behindNumber n))∧
  (∀a,z4 P Any (noView a))∧
  (∀a b,z4 P Any (mayBeOne a b))∧
  (∀t,z4 P Any (typeStr t))∧
  (∀t,z4 P Any (zeroValue t))∧
  (∀t,z4 P Any (sizeOf t))∧
  (∀t,z4 P Any (isAgg t))∧
  (∀a n,z4 P Any (loadCells a n))∧
  (∀t v,z4 P Any (newVar t v))∧
  (∀t,z4 P Any (elemOf t))∧
  (∀v,z4 P Any (asInt v))∧
  (∀a n,z4 P Any (byteVariablesAt a n))∧
  (∀a b,z4 P Any (storeBytes a b))∧
  (∀op x,z4 P Any (Op.unary op x))∧
  (∀a2 s,z4 P Any (Conv.stringToBytes a2 s))∧
  (∀a2 s,z4 P Any (Conv.stringToRunes a2 s))∧
  (∀a,z4 P Any (Conv.seenAt a))∧
  (∀size a5 n base x,z4 P Any (dW size a5 n base x))∧
  (∀argTypes _type args,z4 P Any (dX argTypes _type args))∧
  (∀argTypes _type args,z4 P Any (dY argTypes _type args))∧
  (∀y1 y2,z4 P Any (dZ y1 y2))∧
  (∀y1 y2,z4 P Any (eA y1 y2))∧
  (∀t v,z4 P Any (eB t v))∧
  (∀a0 x,z4 P Any (Instr.makeInterface a0 x))∧
  (∀a0 x,z4 P Any (Instr.range a0 x))∧
  (∀fn tmps params assign body a1,z4 P Any (Instr.enterLoop fn tmps params assign body a1))∧
  (∀l args,z4 P Any (Instr.yield l args))∧
  (∀l a4,z4 P Any (Instr.endRound l a4))∧
  (∀l d,z4 P Any (Instr.deferInRound l d))∧
  (∀op k x y,z4 P Any (Op.Complex.arith op k x y))∧
  (∀op k x y,z4 P Any (Op.Complex.cmp op k x y))∧
  (∀a6 x a3,z4 P Any (Op.Complex.conv a6 x a3))∧
  (∀a6 re im a3,z4 P Any (Conv.complexToComplex a6 re im a3)):=by
 refine⟨?_,?_,?_,?_,?_,?_,?_,?_,?_,?_,?_,?_,?_,?_,?_,?_,?_,?_,?_,?_,?_,?_,?_,?_,?_,?_,?_,?_,?_,?_,?_,?_,?_⟩<;>intros<;>(first|unfold Go.behindNumber|unfold Go.noView|unfold Go.mayBeOne|unfold Go.typeStr|unfold Go.zeroValue|unfold Go.sizeOf|unfold Go.isAgg|unfold Go.loadCells|unfold Go.newVar|unfold Go.elemOf|unfold Go.asInt|unfold Go.byteVariablesAt|unfold Go.storeBytes|unfold Go.Op.unary|unfold Go.Conv.stringToBytes|unfold Go.Conv.stringToRunes|unfold Go.Conv.seenAt|unfold Go.Builtin.mayShare|unfold Go.Builtin.cap_|unfold Go.Builtin.len_|unfold Go.Builtin.max2|unfold Go.Builtin.min2|unfold Go.Builtin.printOne|unfold Go.Instr.makeInterface|unfold Go.Instr.range|unfold Go.Instr.enterLoop|unfold Go.Instr.yield|unfold Go.Instr.endRound|unfold Go.Instr.deferInRound|unfold Go.Op.Complex.arith|unfold Go.Op.Complex.cmp|unfold Go.Op.Complex.conv|unfold Go.Conv.complexToComplex)
 all_goals
  repeat' (first|exact trivial|exact fun _=>trivial|with_reducible (first|assumption|exact zi|exact(v6 _)|exact(Xj _)|exact(jH _)|exact(Za _)|exact(zj _)|exact(vz _ _ _ _)|exact(YS _ _)|exact(qm _)|exact(QL _ _ _)|exact(x8 _ _ _)|exact(mild_Op_intArith _ _ _ _)|exact(mild_Op_intBits _ _ _ _)|exact(yW _)|exact(XQ _ _)|exact(XF _ _ _)|exact(Km _)|exact(yY _)|exact(xP _ _ _ _)|exact(XG _ _ _ _)|exact(Yd _ _ _)|apply z4.bind0|apply z4.map0|apply z4.forInArray|apply z4.forInRange|apply z4.forInList|apply z4.mapMArray|apply z4.mapMList|apply z4.foldlMList|apply z4.forInRange' |apply z4.ite|intro _)|split|dsimp only)
theorem yg {P}(n):z4 P Any (behindNumber n):=zE.1 _
theorem Ki {P}(a):z4 P Any (noView a):=zE.2.1 _
theorem v8 {P}(a)(b):z4 P Any (mayBeOne a b):=zE.2.2.1 _ _
theorem qk {P}(t):z4 P Any (typeStr t):=zE.2.2.2.1 _
theorem yp {P}(t):z4 P Any (zeroValue t):=zE.2.2.2.2.1 _
theorem Zo {P}(t):z4 P Any (sizeOf t):=zE.2.2.2.2.2.1 _
theorem gN {P}(t):z4 P Any (isAgg t):=zE.2.2.2.2.2.2.1 _
theorem jI {P}(a)(n):z4 P Any (loadCells a n):=zE.2.2.2.2.2.2.2.1 _ _
theorem Xk {P}(t)(v):z4 P Any (newVar t v):=zE.2.2.2.2.2.2.2.2.1 _ _
theorem yu {P}(t):z4 P Any (elemOf t):=zE.2.2.2.2.2.2.2.2.2.1 _
theorem yX {P}(v):z4 P Any (asInt v):=zE.2.2.2.2.2.2.2.2.2.2.1 _
theorem Jv {P}(op)(x):z4 P Any (Op.unary op x):=zE.2.2.2.2.2.2.2.2.2.2.2.2.2.1 _ _
theorem XN {P}(elem)(s):z4 P Any (Conv.stringToBytes elem s):=zE.2.2.2.2.2.2.2.2.2.2.2.2.2.2.1 _ _
theorem XM {P}(elem)(s):z4 P Any (Conv.stringToRunes elem s):=zE.2.2.2.2.2.2.2.2.2.2.2.2.2.2.2.1 _ _
theorem kP {P}(a):z4 P Any (Conv.seenAt a):=zE.2.2.2.2.2.2.2.2.2.2.2.2.2.2.2.2.1 _
theorem qJ {P}(size)(sLen)(n)(base)(x):z4 P Any (dW size sLen n base x):=zE.2.2.2.2.2.2.2.2.2.2.2.2.2.2.2.2.2.1 _ _ _ _ _
theorem VH {P}(argTypes)(_type)(args):z4 P Any (dX argTypes _type args):=zE.2.2.2.2.2.2.2.2.2.2.2.2.2.2.2.2.2.2.1 _ _ _
theorem yh {P}(argTypes)(_type)(args):z4 P Any (dY argTypes _type args):=zE.2.2.2.2.2.2.2.2.2.2.2.2.2.2.2.2.2.2.2.1 _ _ _
theorem VG {P}(y1)(y2):z4 P Any (dZ y1 y2):=zE.2.2.2.2.2.2.2.2.2.2.2.2.2.2.2.2.2.2.2.2.1 _ _
theorem VE {P}(y1)(y2):z4 P Any (eA y1 y2):=zE.2.2.2.2.2.2.2.2.2.2.2.2.2.2.2.2.2.2.2.2.2.1 _ _
theorem qI {P}(t)(v):z4 P Any (eB t v):=zE.2.2.2.2.2.2.2.2.2.2.2.2.2.2.2.2.2.2.2.2.2.2.1 _ _
theorem Xt {P}(xType)(x):z4 P Any (Instr.makeInterface xType x):=zE.2.2.2.2.2.2.2.2.2.2.2.2.2.2.2.2.2.2.2.2.2.2.2.1 _ _
theorem kK {P}(xType)(x):z4 P Any (Instr.range xType x):=zE.2.2.2.2.2.2.2.2.2.2.2.2.2.2.2.2.2.2.2.2.2.2.2.2.1 _ _
theorem YV {P}(fn)(tmps)(params)(assign)(body)(around):z4 P Any (Instr.enterLoop fn tmps params assign body around):=zE.2.2.2.2.2.2.2.2.2.2.2.2.2.2.2.2.2.2.2.2.2.2.2.2.2.1 _ _ _ _ _ _
theorem xk {P}(l)(jump):z4 P Any (Instr.endRound l jump):=zE.2.2.2.2.2.2.2.2.2.2.2.2.2.2.2.2.2.2.2.2.2.2.2.2.2.2.2.1 _ _
theorem Y6 {P}(l)(d):z4 P Any (Instr.deferInRound l d):=zE.2.2.2.2.2.2.2.2.2.2.2.2.2.2.2.2.2.2.2.2.2.2.2.2.2.2.2.2.1 _ _
theorem zT {P}(op)(k)(x)(y):z4 P Any (Op.Complex.arith op k x y):=zE.2.2.2.2.2.2.2.2.2.2.2.2.2.2.2.2.2.2.2.2.2.2.2.2.2.2.2.2.2.1 _ _ _ _
theorem qZ {P}(src)(x)(dst):z4 P Any (Op.Complex.conv src x dst):=zE.2.2.2.2.2.2.2.2.2.2.2.2.2.2.2.2.2.2.2.2.2.2.2.2.2.2.2.2.2.2.2.1 _ _ _
theorem xR {P}(src)(re)(im)(dst):z4 P Any (Conv.complexToComplex src re im dst):=zE.2.2.2.2.2.2.2.2.2.2.2.2.2.2.2.2.2.2.2.2.2.2.2.2.2.2.2.2.2.2.2.2 _ _ _ _
theorem Zf {P:Program}:(∀n,z4 P Any (backFromNumber n))∧
  (∀a b,z4 P Any (sameAddr a b))∧
  (∀t a,z4 P Any (loadVar t a))∧
  (∀t a v,z4 P Any (storeVar t a v))∧
  (∀t cs off,z4 P Any (part t cs off))∧
  (∀{α:Type} (e:RuntimeError),z4 P Any (Go.runtimePanic e:Sem α))∧
  (∀a,z4 P Any (byteOf a))∧
  (∀x,z4 P Any (Conv.bytesToString x))∧
  (∀x,z4 P Any (Conv.runesToString x))∧
  (∀a6 a5 x,z4 P Any (Conv.unsafePointer a6 a5 x))∧
  (∀size n y1,z4 P Any (eC size n y1))∧
  (∀argTypes _type args,z4 P Any (eD argTypes _type args))∧
  (∀_argTypes _type args,z4 P Any (eE _argTypes _type args))∧
  (∀_argTypes _type args,z4 P Any (eF _argTypes _type args))∧
  (∀ln a2 argTypes args,z4 P Any (eG ln a2 argTypes args))∧
  (∀a4 v,z4 P Any (Instr.box a4 v))∧
  (∀t a0,z4 P Any (Instr.build t a0))∧
  (∀t len a0,z4 P Any (Instr.buildSlice t len a0))∧
  (∀t a1,z4 P Any (Instr.makeMap t a1))∧
  (∀_mapType map a3 value,z4 P Any (Instr.entryStore _mapType map a3 value)):=by
 refine⟨?_,?_,?_,?_,?_,?_,?_,?_,?_,?_,?_,?_,?_,?_,?_,?_,?_,?_,?_,?_⟩<;>intros<;>(first|unfold Go.backFromNumber|unfold Go.sameAddr|unfold Go.loadVar|unfold Go.storeVar|unfold Go.part|unfold Go.runtimePanic|unfold Go.byteOf|unfold Go.Conv.bytesToString|unfold Go.Conv.runesToString|unfold Go.Conv.unsafePointer|unfold Go.Builtin.firstCells|unfold Go.Builtin.clear_|unfold Go.Builtin.max_|unfold Go.Builtin.min_|unfold Go.Builtin.pieces|unfold Go.Instr.box|unfold Go.Instr.build|unfold Go.Instr.buildSlice|unfold Go.Instr.makeMap|unfold Go.Instr.entryStore)
 all_goals
  repeat' (first|exact trivial|exact fun _=>trivial|with_reducible (first|assumption|exact zi|exact(yg _)|exact(v8 _ _)|exact(Ki _)|exact(gN _)|exact(jI _ _)|exact(Zo _)|exact(x8 _ _ _)|exact(yu _)|exact(Xk _ _)|exact(kP _)|exact(vd _ _)|exact(Uk _)|exact(zj _)|exact(Yt _ _ _)|exact(yp _)|exact(VG _ _)|exact(VE _ _)|exact(qI _ _)|exact(YS _ _)|exact(yX _)|apply z4.bind0|apply z4.map0|apply z4.forInArray|apply z4.forInRange|apply z4.forInList|apply z4.mapMArray|apply z4.mapMList|apply z4.foldlMList|apply z4.forInRange' |apply z4.ite|intro _)|split|dsimp only)
theorem Q_ {P}(a)(b):z4 P Any (sameAddr a b):=Zf.2.1 _ _
theorem ql {P}(t)(a):z4 P Any (loadVar t a):=Zf.2.2.1 _ _
theorem Jt {P}(t)(a)(v):z4 P Any (storeVar t a v):=Zf.2.2.2.1 _ _ _
theorem Yu {P}(t)(cs)(off):z4 P Any (part t cs off):=Zf.2.2.2.2.1 _ _ _
theorem zz {P:Program}{α:Type}(e:RuntimeError):z4 P Any (Go.runtimePanic e:Sem α):=Zf.2.2.2.2.2.1 _
theorem Kl {P}(a):z4 P Any (byteOf a):=Zf.2.2.2.2.2.2.1 _
theorem XP {P}(x):z4 P Any (Conv.bytesToString x):=Zf.2.2.2.2.2.2.2.1 _
theorem XO {P}(x):z4 P Any (Conv.runesToString x):=Zf.2.2.2.2.2.2.2.2.1 _
theorem XL {P}(src)(dst)(x):z4 P Any (Conv.unsafePointer src dst x):=Zf.2.2.2.2.2.2.2.2.2.1 _ _ _
theorem XR {P}(size)(n)(y1):z4 P Any (eC size n y1):=Zf.2.2.2.2.2.2.2.2.2.2.1 _ _ _
theorem QT {P}(argTypes)(_type)(args):z4 P Any (eD argTypes _type args):=Zf.2.2.2.2.2.2.2.2.2.2.2.1 _ _ _
theorem VF {P}(_argTypes)(_type)(args):z4 P Any (eE _argTypes _type args):=Zf.2.2.2.2.2.2.2.2.2.2.2.2.1 _ _ _
theorem VD {P}(_argTypes)(_type)(args):z4 P Any (eF _argTypes _type args):=Zf.2.2.2.2.2.2.2.2.2.2.2.2.2.1 _ _ _
theorem QR {P}(ln)(consts)(argTypes)(args):z4 P Any (eG ln consts argTypes args):=Zf.2.2.2.2.2.2.2.2.2.2.2.2.2.2.1 _ _ _ _
theorem jN {P}(elem)(v):z4 P Any (Instr.box elem v):=Zf.2.2.2.2.2.2.2.2.2.2.2.2.2.2.2.1 _ _
theorem kM {P}(t)(parts):z4 P Any (Instr.build t parts):=Zf.2.2.2.2.2.2.2.2.2.2.2.2.2.2.2.2.1 _ _
theorem qH {P}(t)(len)(parts):z4 P Any (Instr.buildSlice t len parts):=Zf.2.2.2.2.2.2.2.2.2.2.2.2.2.2.2.2.2.1 _ _ _
theorem vC {P}(t)(reserve):z4 P Any (Instr.makeMap t reserve):=Zf.2.2.2.2.2.2.2.2.2.2.2.2.2.2.2.2.2.2.1 _ _
theorem qG {P}(_mapType)(map)(stamp)(value):z4 P Any (Instr.entryStore _mapType map stamp value):=Zf.2.2.2.2.2.2.2.2.2.2.2.2.2.2.2.2.2.2.2 _ _ _ _
theorem ZQ {P:Program}(_argTypes:Array TypeId)(_type:TypeId)(args:Array Value):z4 P Any (Go.Builtin.unsafeAdd_ _argTypes _type args):=by
 unfold Go.Builtin.unsafeAdd_;obtain⟨l⟩:=args;rcases l with _|⟨a,_|⟨b,_|⟨c,_|⟨d,l⟩⟩⟩⟩
 all_goals first
  |exact trivial
  |(cases a<;>first|exact trivial|skip)
 all_goals(try rename_i o;cases o)
 all_goals try(first|exact trivial|refine z4.bind0 ?_ (fun _=> ?_)|refine z4.ite (fun _=> ?_) (fun _=> ?_))
 all_goals
  repeat' (first|exact trivial|exact fun _=>trivial|with_reducible (first|assumption|exact zi|exact(yh _ _ _)|exact(yX _)|exact(Xj _)|apply z4.bind0|apply z4.map0|apply z4.forInArray|apply z4.forInRange|apply z4.forInList|apply z4.mapMArray|apply z4.mapMList|apply z4.foldlMList|apply z4.forInRange' |apply z4.ite|intro _)|split|dsimp only)
theorem YW {P:Program}(_argTypes:Array TypeId)(a0:TypeId)(args:Array Value):z4 P Any (Go.Builtin.unsafeSliceData_ _argTypes a0 args):=by
 unfold Go.Builtin.unsafeSliceData_;obtain⟨l⟩:=args;rcases l with _|⟨a,_|⟨b,l⟩⟩
 ·exact trivial
 ·cases a with
  |slice base n c=>
   cases base with
   |none=>exact trivial
   |some a=>
    refine z4.ite (fun _=>trivial) (fun _=> ?_);refine z4.bind0 (Xj _) (fun _=>z4.ite (fun _=>trivial) (fun _=> ?_));exact z4.bind0 (yu _) fun _=>z4.bind0 (yq _) fun _=>trivial
  |_=>exact trivial
 ·exact trivial
theorem Yw {P:Program}(_argTypes:Array TypeId)(a0:TypeId)(args:Array Value):z4 P Any (Go.Builtin.unsafeStringData_ _argTypes a0 args):=by
 unfold Go.Builtin.unsafeStringData_;obtain⟨l⟩:=args;rcases l with _|⟨a,_|⟨b,_|⟨c,_|⟨d,l⟩⟩⟩⟩
 all_goals first
  |exact trivial
  |(cases a<;>first|exact trivial|skip)
 all_goals(try rename_i o;cases o)
 all_goals try(first|exact trivial|refine z4.bind0 ?_ (fun _=> ?_)|refine z4.ite (fun _=> ?_) (fun _=> ?_))
 all_goals
  repeat' (first|exact trivial|exact fun _=>trivial|with_reducible (first|assumption|exact zi|exact(yu _)|exact(yW _)|exact(YS _ _)|apply z4.bind0|apply z4.map0|apply z4.forInArray|apply z4.forInRange|apply z4.forInList|apply z4.mapMArray|apply z4.mapMList|apply z4.foldlMList|apply z4.forInRange' |apply z4.ite|intro _)|split|dsimp only)
theorem xj {P:Program}(x y:Nat):z4 P Any (Go.Op.Complex.add x y):=zT _ _ _ _
theorem xf {P:Program}(x y:Nat):z4 P Any (Go.Op.Complex.sub x y):=zT _ _ _ _
theorem xh {P:Program}(x y:Nat):z4 P Any (Go.Op.Complex.mul x y):=zT _ _ _ _
theorem xg {P:Program}(x y:Nat):z4 P Any (Go.Op.Complex.quo x y):=zT _ _ _ _
theorem zU {P:Program}:(∀y1 y2,z4 P Any (samePointer y1 y2))∧
  (∀{α:Type} (k:IntKind) (x y:Int) (a8:BoundsCode),z4 P Any (Go.boundsPanic k x y a8:Sem α))∧
  (∀y1,z4 P Any (asAddr y1))∧
  (∀base a5 a4,z4 P Any (partAt base a5 a4))∧
  (∀a b,z4 P Any (Op.twoPlaces a b))∧
  (∀k a n,z4 P Any (Op.addrMod k a n))∧
  (∀op k x y,z4 P Any (Op.intDiv op k x y))∧
  (∀op k x _yk y,z4 P Any (Op.shift op k x _yk y))∧
  (∀argTypes _type args,z4 P Any (eH argTypes _type args))∧
  (∀argTypes _type args,z4 P Any (eI argTypes _type args))∧
  (∀t a3,z4 P Any (Instr.loadAt t a3))∧
  (∀t a3 val,z4 P Any (Instr.storeAt t a3 val))∧
  (∀b1 x,z4 P Any (Instr.arrayAt b1 x))∧
  (∀a9 heap b2,z4 P Any (Instr.alloc a9 heap b2))∧
  (∀a1 x a6,z4 P Any (Instr.field a1 x a6))∧
  (∀t size,z4 P Any (Instr.makeChan t size))∧
  (∀t len cap,z4 P Any (Instr.makeSlice t len cap))∧
  (∀t y1,z4 P Any (Place.get t y1))∧
  (∀x,z4 P Any (Instr.panic x))∧
  (∀l,z4 P Any (Instr.beginRound l))∧
  (∀l,z4 P Any (Instr.endLoop l))∧
  (∀x a1 a0 a2,z4 P Any (Instr.typeAssert x a1 a0 a2))∧
  (∀a b c d,z4 P Any (Op.Complex.product a b c d))∧
  (∀a7 a b c d,z4 P Any (Op.Complex.corrected a7 a b c d)):=by
 refine⟨?_,?_,?_,?_,?_,?_,?_,?_,?_,?_,?_,?_,?_,?_,?_,?_,?_,?_,?_,?_,?_,?_,?_,?_⟩<;>intros<;>(first|unfold Go.samePointer|unfold Go.boundsPanic|unfold Go.asAddr|unfold Go.partAt|unfold Go.Op.twoPlaces|unfold Go.Op.addrMod|unfold Go.Op.intDiv|unfold Go.Op.shift|unfold Go.Builtin.append_|unfold Go.Builtin.copy_|unfold Go.Instr.loadAt|unfold Go.Instr.storeAt|unfold Go.Instr.arrayAt|unfold Go.Instr.alloc|unfold Go.Instr.field|unfold Go.Instr.makeChan|unfold Go.Instr.makeSlice|unfold Go.Place.get|unfold Go.Instr.panic|unfold Go.Instr.beginRound|unfold Go.Instr.endLoop|unfold Go.Instr.typeAssert|unfold Go.Op.Complex.product|unfold Go.Op.Complex.corrected)
 all_goals
  repeat' (first|exact trivial|exact fun _=>trivial|with_reducible (first|assumption|exact zi|exact(Q_ _ _)|exact(zz _)|exact(Kl _)|exact(Za _)|exact(XR _ _ _)|exact(vJ _)|exact(qJ _ _ _ _ _)|exact(yX _)|exact(Vw _)|exact(YS _ _)|exact(Zo _)|exact(x8 _ _ _)|exact(zj _)|exact(yp _)|exact(yI _)|exact(ql _ _)|exact(Jt _ _ _)|exact(Xk _ _)|exact(jK _)|exact(Yu _ _ _)|exact(QM)|exact(yY _)|exact(zT _ _ _ _)|exact(xj _ _)|exact(xf _ _)|exact(xh _ _)|exact(xg _ _)|apply z4.bind0|apply z4.map0|apply z4.forInArray|apply z4.forInRange|apply z4.forInList|apply z4.mapMArray|apply z4.mapMList|apply z4.foldlMList|apply z4.forInRange' |apply z4.ite|intro _)|split|dsimp only)
theorem kD {P}(y1)(y2):z4 P Any (samePointer y1 y2):=zU.1 _ _
theorem XE {P:Program}{α:Type}(k:IntKind)(x y:Int)(a0:BoundsCode):z4 P Any (Go.boundsPanic k x y a0:Sem α):=zU.2.1 _ _ _ _
theorem YT {P}(y1):z4 P Any (asAddr y1):=zU.2.2.1 _
theorem oT {P}(base)(cells)(bytes):z4 P Any (partAt base cells bytes):=zU.2.2.2.1 _ _ _
theorem Vx {P}(a)(b):z4 P Any (Op.twoPlaces a b):=zU.2.2.2.2.1 _ _
theorem KH {P}(k)(a)(n):z4 P Any (Op.addrMod k a n):=zU.2.2.2.2.2.1 _ _ _
theorem jL {P}(op)(k)(x)(y):z4 P Any (Op.intDiv op k x y):=zU.2.2.2.2.2.2.1 _ _ _ _
theorem Jw {P}(op)(k)(x)(_yk)(y):z4 P Any (Op.shift op k x _yk y):=zU.2.2.2.2.2.2.2.1 _ _ _ _ _
theorem Q2 {P}(argTypes)(_type)(args):z4 P Any (eH argTypes _type args):=zU.2.2.2.2.2.2.2.2.1 _ _ _
theorem vL {P}(argTypes)(_type)(args):z4 P Any (eI argTypes _type args):=zU.2.2.2.2.2.2.2.2.2.1 _ _ _
theorem VC {P}(t)(addr):z4 P Any (Instr.loadAt t addr):=zU.2.2.2.2.2.2.2.2.2.2.1 _ _
theorem vA {P}(t)(addr)(val):z4 P Any (Instr.storeAt t addr val):=zU.2.2.2.2.2.2.2.2.2.2.2.1 _ _ _
theorem vH {P}(arr)(x):z4 P Any (Instr.arrayAt arr x):=zU.2.2.2.2.2.2.2.2.2.2.2.2.1 _ _
theorem kN {P}(elem)(heap)(old):z4 P Any (Instr.alloc elem heap old):=zU.2.2.2.2.2.2.2.2.2.2.2.2.2.1 _ _ _
theorem XK {P}(xType)(x)(field):z4 P Any (Instr.field xType x field):=zU.2.2.2.2.2.2.2.2.2.2.2.2.2.2.1 _ _ _
theorem QP {P}(t)(size):z4 P Any (Instr.makeChan t size):=zU.2.2.2.2.2.2.2.2.2.2.2.2.2.2.2.1 _ _
theorem q_ {P}(t)(len)(cap):z4 P Any (Instr.makeSlice t len cap):=zU.2.2.2.2.2.2.2.2.2.2.2.2.2.2.2.2.1 _ _ _
theorem xO {P}(t)(y1):z4 P Any (Place.get t y1):=zU.2.2.2.2.2.2.2.2.2.2.2.2.2.2.2.2.2.1 _ _
theorem XI {P}(x):z4 P Any (Instr.panic x):=zU.2.2.2.2.2.2.2.2.2.2.2.2.2.2.2.2.2.2.1 _
theorem Yp {P}(l):z4 P Any (Instr.beginRound l):=zU.2.2.2.2.2.2.2.2.2.2.2.2.2.2.2.2.2.2.2.1 _
theorem xQ {P}(l):z4 P Any (Instr.endLoop l):=zU.2.2.2.2.2.2.2.2.2.2.2.2.2.2.2.2.2.2.2.2.1 _
theorem qD {P}(x)(xType)(asserted)(commaOk):z4 P Any (Instr.typeAssert x xType asserted commaOk):=zU.2.2.2.2.2.2.2.2.2.2.2.2.2.2.2.2.2.2.2.2.2.1 _ _ _ _
theorem XH {P}(a)(b)(c)(d):z4 P Any (Op.Complex.product a b c d):=zU.2.2.2.2.2.2.2.2.2.2.2.2.2.2.2.2.2.2.2.2.2.2.1 _ _ _ _
theorem x_ {P}(scale)(a)(b)(c)(d):z4 P Any (Op.Complex.corrected scale a b c d):=zU.2.2.2.2.2.2.2.2.2.2.2.2.2.2.2.2.2.2.2.2.2.2.2 _ _ _ _ _
theorem Vy {P:Program}(y1:Nat)(y2:TypeId)(y3:Value)(y4:Value):z4 P Any (Go.Op.eqGuardIn y1 y2 y3 y4):=by
 induction y1 generalizing y2 y3 y4 with
 |zero=> ?_
 |succ n ih=> ?_
 all_goals
  unfold Go.Op.eqGuardIn;repeat' (first|exact trivial|exact fun _=>trivial|with_reducible (first|assumption|exact zi|exact(Yu _ _ _)|exact(Zo _)|exact(zj _)|exact ih _ _ _|apply z4.bind0|apply z4.map0|apply z4.forInArray|apply z4.forInRange|apply z4.forInList|apply z4.mapMArray|apply z4.mapMList|apply z4.foldlMList|apply z4.forInRange' |apply z4.ite|intro _)|split|dsimp only)
theorem QS {P:Program}(_argTypes:Array TypeId)(_type:TypeId)(args:Array Value):z4 P Any (Go.Builtin.close_ _argTypes _type args):=by
 unfold Go.Builtin.close_;obtain⟨l⟩:=args;rcases l with _|⟨a,_|⟨b,_|⟨c,_|⟨d,l⟩⟩⟩⟩
 all_goals first
  |exact trivial
  |(cases a<;>first|exact trivial|skip)
 all_goals(try rename_i o;cases o)
 all_goals try(first|exact trivial|refine z4.bind0 ?_ (fun _=> ?_)|refine z4.ite (fun _=> ?_) (fun _=> ?_))
 all_goals
  repeat' (first|exact trivial|exact fun _=>trivial|with_reducible (first|assumption|exact zi|exact(zz _)|apply z4.bind0|apply z4.map0|apply z4.forInArray|apply z4.forInRange|apply z4.forInList|apply z4.mapMArray|apply z4.mapMList|apply z4.foldlMList|apply z4.forInRange' |apply z4.ite|intro _)|split|dsimp only)
theorem X8 {P:Program}(argTypes:Array TypeId)(_type:TypeId)(args:Array Value):z4 P Any (Go.Builtin.unsafeSlice_ argTypes _type args):=by
 unfold Go.Builtin.unsafeSlice_;obtain⟨l⟩:=args;rcases l with _|⟨a,_|⟨b,_|⟨c,_|⟨d,l⟩⟩⟩⟩
 all_goals first
  |exact trivial
  |(cases a<;>first|exact trivial|skip)
 all_goals(try rename_i o;cases o)
 all_goals try(first|exact trivial|refine z4.bind0 ?_ (fun _=> ?_)|refine z4.ite (fun _=> ?_) (fun _=> ?_))
 all_goals
  repeat' (first|exact trivial|exact fun _=>trivial|with_reducible (first|assumption|exact zi|exact(yh _ _ _)|exact(yX _)|exact(yu _)|exact(zz _)|exact(Zo _)|exact(Za _)|exact(Yt _ _ _)|exact(Xj _)|apply z4.bind0|apply z4.map0|apply z4.forInArray|apply z4.forInRange|apply z4.forInList|apply z4.mapMArray|apply z4.mapMList|apply z4.foldlMList|apply z4.forInRange' |apply z4.ite|intro _)|split|dsimp only)
theorem xS {P:Program}(argTypes:Array TypeId)(_type:TypeId)(args:Array Value):z4 P Any (Go.Builtin.unsafeString_ argTypes _type args):=by
 unfold Go.Builtin.unsafeString_;obtain⟨l⟩:=args;rcases l with _|⟨a,_|⟨b,_|⟨c,_|⟨d,l⟩⟩⟩⟩
 all_goals first
  |exact trivial
  |(cases a<;>first|exact trivial|skip)
 all_goals(try rename_i o;cases o)
 all_goals try(first|exact trivial|refine z4.bind0 ?_ (fun _=> ?_)|refine z4.ite (fun _=> ?_) (fun _=> ?_))
 all_goals
  repeat' (first|exact trivial|exact fun _=>trivial|with_reducible (first|assumption|exact zi|exact(yh _ _ _)|exact(yX _)|exact(yu _)|exact(jJ _ _ _)|exact(zz _)|exact(Yt _ _ _)|apply z4.bind0|apply z4.map0|apply z4.forInArray|apply z4.forInRange|apply z4.forInList|apply z4.mapMArray|apply z4.mapMList|apply z4.foldlMList|apply z4.forInRange' |apply z4.ite|intro _)|split|dsimp only)
theorem QQ {P:Program}(a0:Bool)(y1:Nat)(y2:TypeId)(y3:Value):z4 P Any (Go.Instr.checkKey a0 y1 y2 y3):=by
 induction y1 generalizing y2 y3 with
 |zero=> ?_
 |succ n ih=> ?_
 all_goals
  unfold Go.Instr.checkKey;repeat' (first|exact trivial|exact fun _=>trivial|with_reducible (first|assumption|exact zi|exact(Yu _ _ _)|exact(zz _)|exact(Zo _)|exact(Za _)|exact(qk _)|exact(zj _)|exact ih _ _|apply z4.bind0|apply z4.map0|apply z4.forInArray|apply z4.forInRange|apply z4.forInList|apply z4.mapMArray|apply z4.mapMList|apply z4.foldlMList|apply z4.forInRange' |apply z4.ite|intro _)|split|dsimp only)
theorem kG {P:Program}(y1:List FieldStep)(y2:TypeId)(y3:Option Value):z4 P Any (Go.followBlind y1 y2 y3):=by
 induction y1 generalizing y2 y3 with
 |nil=> ?_
 |cons x l ih=> ?_
 all_goals
  unfold Go.followBlind;repeat' (first|exact trivial|exact fun _=>trivial|with_reducible (first|assumption|exact zi|exact(Yu _ _ _)|exact(zj _)|exact ih _ _|apply z4.bind0|apply z4.map0|apply z4.forInArray|apply z4.forInRange|apply z4.forInList|apply z4.mapMArray|apply z4.mapMList|apply z4.foldlMList|apply z4.forInRange' |apply z4.ite|intro _)|split|dsimp only)
theorem xw {P:Program}(argTypes:Array TypeId)(_type:TypeId)(args:Array Value):z4 P Any (Go.Builtin.ssaWrapNilChk_ argTypes _type args):=by
 unfold Go.Builtin.ssaWrapNilChk_;obtain⟨l⟩:=args;rcases l with _|⟨a,_|⟨b,_|⟨c,_|⟨d,l⟩⟩⟩⟩
 ·exact trivial
 ·exact trivial
 ·exact trivial
 ·cases b with
  |string s=>
   cases c with
   |string m=>
    cases a with
    |pointer o=>
     cases o with
     |some a=>exact trivial
     |none=>
      refine z4.bind0 (Zi _) (fun _=> ?_);repeat' (first|exact trivial|exact fun _=>trivial|with_reducible (first|assumption|exact zi|exact(Kj _ _ _ _)|exact(zz _)|exact(Za _)|exact(zj _)|apply z4.bind0|apply z4.map0|apply z4.forInArray|apply z4.forInRange|apply z4.forInList|apply z4.mapMArray|apply z4.mapMList|apply z4.foldlMList|apply z4.forInRange' |apply z4.ite|intro _)|split|dsimp only)
    |_=>exact trivial
   |_=>exact trivial
  |_=>exact trivial
 ·exact trivial
theorem xN {P:Program}:(∀a f,z4 P Any (fieldPlace a f))∧
  (∀k a b,z4 P Any (Op.addrSub k a b))∧
  (∀op a b,z4 P Any (Op.addrCmp op a b))∧
  (∀a3 x a2,z4 P Any (Instr.index a3 x a2))∧
  (∀x y a4,z4 P Any (Instr.sliceBound x y a4))∧
  (∀a b c d,z4 P Any (Op.Complex.quotient a b c d))∧
  (∀xt x a0 a1,z4 P Any (receiverAt xt x a0 a1)):=by
 refine⟨?_,?_,?_,?_,?_,?_,?_⟩<;>intros<;>(first|unfold Go.fieldPlace|unfold Go.Op.addrSub|unfold Go.Op.addrCmp|unfold Go.Instr.index|unfold Go.Instr.sliceBound|unfold Go.Op.Complex.quotient|unfold Go.receiverAt)
 all_goals
  repeat' (first|exact trivial|exact fun _=>trivial|with_reducible (first|assumption|exact zi|exact(oT _ _ _)|exact(Zo _)|exact(Vx _ _)|exact(qm _)|exact(XE _ _ _ _)|exact(Yu _ _ _)|exact(zj _)|exact(zT _ _ _ _)|exact(mild_Op_Complex_cmp _ _ _ _)|exact(x_ _ _ _ _ _)|exact(xj _ _)|exact(xf _ _)|exact(xh _ _)|exact(xg _ _)|exact(xw _ _ _)|exact(xO _ _)|exact(YT _)|exact(ql _ _)|apply z4.bind0|apply z4.map0|apply z4.forInArray|apply z4.forInRange|apply z4.forInList|apply z4.mapMArray|apply z4.mapMList|apply z4.foldlMList|apply z4.forInRange' |apply z4.ite|intro _)|split|dsimp only)
theorem qx {P}(a)(f):z4 P Any (fieldPlace a f):=xN.1 _ _
theorem KG {P}(k)(a)(b):z4 P Any (Op.addrSub k a b):=xN.2.1 _ _ _
theorem KJ {P}(op)(a)(b):z4 P Any (Op.addrCmp op a b):=xN.2.2.1 _ _ _
theorem Yv {P}(xType)(x)(index):z4 P Any (Instr.index xType x index):=xN.2.2.2.1 _ _ _
theorem qE {P}(x)(y)(code):z4 P Any (Instr.sliceBound x y code):=xN.2.2.2.2.1 _ _ _
theorem Xs {P}(a)(b)(c)(d):z4 P Any (Op.Complex.quotient a b c d):=xN.2.2.2.2.2.1 _ _ _ _
theorem qw {P}(xt)(x)(pointerReceiver)(wrapper):z4 P Any (receiverAt xt x pointerReceiver wrapper):=xN.2.2.2.2.2.2 _ _ _ _
theorem KF {P:Program}(y1:Nat)(y2:TypeId)(y3:Value)(y4:Value):z4 P Any (Go.Op.equalIn y1 y2 y3 y4):=by
 induction y1 generalizing y2 y3 y4 with
 |zero=> ?_
 |succ n ih=> ?_
 all_goals
  unfold Go.Op.equalIn;repeat' (first|exact trivial|exact fun _=>trivial|with_reducible (first|assumption|exact zi|exact(yg _)|exact(Kl _)|exact(Yu _ _ _)|exact(zz _)|exact(Q_ _ _)|exact(kD _ _)|exact(Zo _)|exact(Za _)|exact(qk _)|exact(zj _)|exact ih _ _ _|apply z4.bind0|apply z4.map0|apply z4.forInArray|apply z4.forInRange|apply z4.forInList|apply z4.mapMArray|apply z4.mapMList|apply z4.foldlMList|apply z4.forInRange' |apply z4.ite|intro _)|split|dsimp only)
theorem Ju {P:Program}(y1:Nat)(y2:TypeId)(y3:Value)(y4:String):z4 P Any (Go.nilAhead y1 y2 y3 y4):=by
 induction y1 generalizing y2 y3 y4 with
 |zero=> ?_
 |succ n ih=> ?_
 all_goals
  unfold Go.nilAhead;repeat' (first|exact trivial|exact fun _=>trivial|with_reducible (first|assumption|exact zi|exact(kG _ _ _)|exact(Za _)|exact(zj _)|exact ih _ _ _|apply z4.bind0|apply z4.map0|apply z4.forInArray|apply z4.forInRange|apply z4.forInList|apply z4.mapMArray|apply z4.mapMList|apply z4.foldlMList|apply z4.forInRange' |apply z4.ite|intro _)|split|dsimp only)
theorem XD {P:Program}:(∀t x y,z4 P Any (Op.equal t x y))∧
  (∀a1 len cap low a5 a6,z4 P Any (Instr.sliceBounds a1 len cap low a5 a6))∧
  (∀op k xr xi yr yi,z4 P Any (Op.complexOp op k xr xi yr yi))∧
  (∀s a4 a2,z4 P Any (Instr.fieldAt s a4 a2))∧
  (∀t x a0,z4 P Any (Instr.indexAt t x a0))∧
  (∀a3 a0,z4 P Any (Instr.extract a3 a0)):=by
 refine⟨?_,?_,?_,?_,?_,?_⟩<;>intros<;>(first|unfold Go.Op.equal|unfold Go.Instr.sliceBounds|unfold Go.Op.complexOp|unfold Go.Instr.fieldAt|unfold Go.Instr.indexAt|unfold Go.Instr.extract)
 all_goals
  repeat' (first|exact trivial|exact fun _=>trivial|with_reducible (first|assumption|exact zi|exact(KF _ _ _ _)|exact(qE _ _ _)|exact(zT _ _ _ _)|exact(mild_Op_Complex_cmp _ _ _ _)|exact(qZ _ _ _)|exact(XH _ _ _ _)|exact(Xs _ _ _ _)|exact(XK _ _ _)|exact(yI _)|exact(qx _ _)|exact(zj _)|exact(Yv _ _ _)|exact(qm _)|exact(XE _ _ _ _)|exact(Zo _)|apply z4.bind0|apply z4.map0|apply z4.forInArray|apply z4.forInRange|apply z4.forInList|apply z4.mapMArray|apply z4.mapMList|apply z4.foldlMList|apply z4.forInRange' |apply z4.ite|intro _)|split|dsimp only)
theorem ve {P}(t)(x)(y):z4 P Any (Op.equal t x y):=XD.1 _ _ _
theorem Yc {P}(isSlice)(len)(cap)(low)(high)(max):z4 P Any (Instr.sliceBounds isSlice len cap low high max):=XD.2.1 _ _ _ _ _ _
theorem Vz {P}(op)(k)(xr)(xi)(yr)(yi):z4 P Any (Op.complexOp op k xr xi yr yi):=XD.2.2.1 _ _ _ _ _ _
theorem vF {P}(s)(addr)(field):z4 P Any (Instr.fieldAt s addr field):=XD.2.2.2.1 _ _ _
theorem vD {P}(t)(x)(index):z4 P Any (Instr.indexAt t x index):=XD.2.2.2.2.1 _ _ _
theorem vG {P}(tuple)(index):z4 P Any (Instr.extract tuple index):=XD.2.2.2.2.2 _ _
theorem Kk {P:Program}(y1:List FieldStep)(y2:TypeId)(y3:Place):z4 P Any (Go.follow y1 y2 y3):=by
 induction y1 generalizing y2 y3 with
 |nil=> ?_
 |cons x l ih=> ?_
 all_goals
  unfold Go.follow;repeat' (first|exact trivial|exact fun _=>trivial|with_reducible (first|assumption|exact zi|exact(xO _ _)|exact(YT _)|exact(qx _ _)|exact(Yu _ _ _)|exact(zj _)|exact ih _ _|apply z4.bind0|apply z4.map0|apply z4.forInArray|apply z4.forInRange|apply z4.forInList|apply z4.mapMArray|apply z4.mapMList|apply z4.foldlMList|apply z4.forInRange' |apply z4.ite|intro _)|split|dsimp only)
theorem oV {P:Program}:(∀a1 x low a2 a3,z4 P Any (Instr.slice a1 x low a2 a3))∧
  (∀t v path a0,z4 P Any (receiverVia t v path a0)):=by
 refine⟨?_,?_⟩<;>intros<;>(first|unfold Go.Instr.slice|unfold Go.receiverVia)
 all_goals
  repeat' (first|exact trivial|exact fun _=>trivial|with_reducible (first|assumption|exact zi|exact(Yc _ _ _ _ _ _)|exact(YT _)|exact(Zo _)|exact(zj _)|exact(Kk _ _ _)|exact(qw _ _ _ _)|apply z4.bind0|apply z4.map0|apply z4.forInArray|apply z4.forInRange|apply z4.forInList|apply z4.mapMArray|apply z4.mapMList|apply z4.foldlMList|apply z4.forInRange' |apply z4.ite|intro _)|split|dsimp only)
theorem kI {P}(xType)(x)(low)(high)(max):z4 P Any (Instr.slice xType x low high max):=oV.1 _ _ _ _ _
theorem kE {P}(t)(v)(path)(pointerReceiver):z4 P Any (receiverVia t v path pointerReceiver):=oV.2 _ _ _ _
theorem qF {P:Program}(a0:TypeId)(k:Value)(y1:List MapEntry)(y2:Nat):z4 P Any (Go.Instr.findAsking a0 k y1 y2):=by
 induction y1 generalizing y2 with
 |nil=> ?_
 |cons x l ih=> ?_
 all_goals
  unfold Go.Instr.findAsking;repeat' (first|exact trivial|exact fun _=>trivial|with_reducible (first|assumption|exact zi|exact(ve _ _ _)|exact ih _|apply z4.bind0|apply z4.map0|apply z4.forInArray|apply z4.forInRange|apply z4.forInList|apply z4.mapMArray|apply z4.mapMList|apply z4.foldlMList|apply z4.forInRange' |apply z4.ite|intro _)|split|dsimp only)
theorem Kj {P:Program}(y1:Nat)(y2:TypeId)(y3:Value)(y4:String):z4 P Any (Go.method y1 y2 y3 y4):=by
 induction y1 generalizing y2 y3 y4 with
 |zero=> ?_
 |succ n ih=> ?_
 all_goals
  unfold Go.method;repeat' (first|exact trivial|exact fun _=>trivial|with_reducible (first|assumption|exact zi|exact(xO _ _)|exact(Kk _ _ _)|exact(qw _ _ _ _)|exact(zz _)|exact(Za _)|exact ih _ _ _|apply z4.bind0|apply z4.map0|apply z4.forInArray|apply z4.forInRange|apply z4.forInList|apply z4.mapMArray|apply z4.mapMList|apply z4.foldlMList|apply z4.forInRange' |apply z4.ite|intro _)|split|dsimp only)
theorem oU {P:Program}:(∀a0 k es,z4 P Any (Instr.findKey a0 k es))∧
  (∀t x low a1 a2,z4 P Any (Instr.sliceAt t x low a1 a2)):=by
 refine⟨?_,?_⟩<;>intros<;>(first|unfold Go.Instr.findKey|unfold Go.Instr.sliceAt)
 all_goals
  repeat' (first|exact trivial|exact fun _=>trivial|with_reducible (first|assumption|exact zi|exact(qF _ _ _ _)|exact(zj _)|exact(kI _ _ _ _ _)|exact(Yc _ _ _ _ _ _)|exact(yI _)|exact(Zo _)|apply z4.bind0|apply z4.map0|apply z4.forInArray|apply z4.forInRange|apply z4.forInList|apply z4.mapMArray|apply z4.mapMList|apply z4.foldlMList|apply z4.forInRange' |apply z4.ite|intro _)|split|dsimp only)
theorem vE {P}(keyType)(k)(es):z4 P Any (Instr.findKey keyType k es):=oU.1 _ _ _
theorem vB {P}(t)(x)(low)(high)(max):z4 P Any (Instr.sliceAt t x low high max):=oU.2 _ _ _ _ _
theorem Vv {P:Program}:(∀a3 x a2 a1,z4 P Any (Instr.lookup a3 x a2 a1))∧
  (∀a0 map key value,z4 P Any (Instr.mapUpdate a0 map key value))∧
  (∀argTypes _type args,z4 P Any (eJ argTypes _type args))∧
  (∀a0 map key,z4 P Any (Instr.mapEntry a0 map key)):=by
 refine⟨?_,?_,?_,?_⟩<;>intros<;>(first|unfold Go.Instr.lookup|unfold Go.Instr.mapUpdate|unfold Go.Builtin.delete_|unfold Go.Instr.mapEntry)
 all_goals
  repeat' (first|exact trivial|exact fun _=>trivial|with_reducible (first|assumption|exact zi|exact(QQ _ _ _ _)|exact(vE _ _ _)|exact(Yv _ _ _)|exact(zj _)|exact(yp _)|exact(XJ _ _)|exact(zz _)|apply z4.bind0|apply z4.map0|apply z4.forInArray|apply z4.forInRange|apply z4.forInList|apply z4.mapMArray|apply z4.mapMList|apply z4.foldlMList|apply z4.forInRange' |apply z4.ite|intro _)|split|dsimp only)
theorem VA {P}(xType)(x)(index)(commaOk):z4 P Any (Instr.lookup xType x index commaOk):=Vv.1 _ _ _ _
theorem YU {P}(mapType)(map)(key)(value):z4 P Any (Instr.mapUpdate mapType map key value):=Vv.2.1 _ _ _ _
theorem Q1 {P}(argTypes)(_type)(args):z4 P Any (eJ argTypes _type args):=Vv.2.2.1 _ _ _
theorem QN {P}(mapType)(map)(key):z4 P Any (Instr.mapEntry mapType map key):=Vv.2.2.2 _ _ _
