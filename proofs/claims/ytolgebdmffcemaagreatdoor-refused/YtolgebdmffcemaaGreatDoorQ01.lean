import GoSem.Step
import Derived.Laws.Sem
set_option linter.all false
set_option maxHeartbeats 20000000
set_option maxRecDepth 1000000
namespace Go.Proofs.YtolgebdmffcemaaGreatDoor
open Go
def VS:Halt→Prop
 | .panic _| .fatal _| .throw _| .unsupported _| .stuck _=>True
 |_=>False
def Qv:Halt→Prop
 | .stuck _=>True
 | .unsupported (.initOrder _)=>False
 | .unsupported _=>True
 |_=>False
def fm (m:Mark):Prop:=m≠ .disable∧m≠ .enable
def z4 (P:Program){α:Type}(F:α→Prop):Sem α→Prop
 | .pure a=>F a
 | .load _ _ k=>∀v,z4 P F (k v)
 | .store _ _ _ k=>z4 P F k
 | .new _ k=>∀r,z4 P F (k r)
 | .shape _ k=>∀s,z4 P F (k s)
 | .freeze _ _ k=>z4 P F k
 | .frozen _ k=>∀b,z4 P F (k b)
 | .getObj _ k=>∀o,z4 P F (k o)
 | .setObj _ _ k=>z4 P F k
 | .choose _ k=>∀n,z4 P F (k n)
 | .sys _ k=>(∃h,k .wouldBlock= .halt h∧Qv h)∧∀r,z4 P F (k r)
 | .program k=>z4 P F (k P)
 | .mark m k=>fm m∧z4 P F k
 | .halt h=>VS h
def Any {α:Type}(_:α):Prop:=True
section
variable {P:Program}{α β:Type}
theorem z4.mono {F G:α→Prop}(h:∀a,F a→G a):∀{s:Sem α},z4 P F s→z4 P G s:=by
 intro s;induction s with
 |pure a=>exact h a
 |load m a k ih=>exact fun x v=>ih v (x v)
 |store m a v k ih=>exact ih
 |new o k ih=>exact fun x v=>ih v (x v)
 |shape r k ih=>exact fun x v=>ih v (x v)
 |freeze a n k ih=>exact ih
 |frozen a k ih=>exact fun x v=>ih v (x v)
 |getObj r k ih=>exact fun x v=>ih v (x v)
 |setObj r o k ih=>exact ih
 |choose q k ih=>exact fun x v=>ih v (x v)
 |sys c k ih=>exact fun x=>⟨x.1,fun r=>ih r (x.2 r)⟩
 |program k ih=>exact ih P
 |mark m k ih=>exact fun x=>⟨x.1,ih x.2⟩
 |halt x=>exact id
theorem z4.bind' {F:α→Prop}{G:β→Prop}{f:α→Sem β}(hf:∀a,F a→z4 P G (f a)):∀{s:Sem α},z4 P F s→z4 P G (s.bind f):=by
 intro s;induction s with
 |pure a=>exact hf a
 |load m a k ih=>exact fun x v=>ih v (x v)
 |store m a v k ih=>exact ih
 |new o k ih=>exact fun x v=>ih v (x v)
 |shape r k ih=>exact fun x v=>ih v (x v)
 |freeze a n k ih=>exact ih
 |frozen a k ih=>exact fun x v=>ih v (x v)
 |getObj r k ih=>exact fun x v=>ih v (x v)
 |setObj r o k ih=>exact ih
 |choose q k ih=>exact fun x v=>ih v (x v)
 |sys c k ih=>exact fun x=>⟨let⟨h,h1,h2⟩:=x.1;⟨h,by show(k .wouldBlock).bind f=_;rw[h1];rfl,h2⟩,fun r=>ih r (x.2 r)⟩
 |program k ih=>exact ih P
 |mark m k ih=>exact fun x=>⟨x.1,ih x.2⟩
 |halt x=>exact id
theorem z4.bind {F:α→Prop}{G:β→Prop}{f:α→Sem β}{s:Sem α}(hs:z4 P F s)(hf:∀a,F a→z4 P G (f a)):z4 P G (s>>=f):=z4.bind' hf hs
theorem z4.bind0 {G:β→Prop}{f:α→Sem β}{s:Sem α}(hs:z4 P Any s)(hf:∀a,z4 P G (f a)):z4 P G (s>>=f):=z4.bind' (fun a _=>hf a) hs
theorem z4.map0 {f:α→β}{s:Sem α}(hs:z4 P Any s):z4 P Any (f<$>s):=by
 have h:(f<$>s)=s>>=fun a=>Pure.pure (f a):=by simp
 rw[h];exact z4.bind0 hs fun _=>by exact trivial
theorem z4.forInList {γ:Type}(f:α→γ→Sem (ForInStep γ))(h:∀a s,z4 P Any (f a s)):∀(l:List α) (a0:γ),z4 P Any (forIn l a0 f)
 |[],a0=>by simp only[List.forIn_nil];trivial
 |a::l,a0=>by
  simp only[List.forIn_cons];refine z4.bind0 (h a a0) (fun r=> ?_)
  cases r with
  |done b=>trivial
  |yield b=>exact z4.forInList f h l b
theorem z4.forInArray {γ:Type}(f:α→γ→Sem (ForInStep γ))(h:∀a s,z4 P Any (f a s))(l:Array α)(a0:γ):z4 P Any (forIn l a0 f):=by
 rw[←Array.forIn_toList];exact z4.forInList f h l.toList a0
theorem z4.forInRange {γ:Type}(f:Nat→γ→Sem (ForInStep γ))(h:∀a s,z4 P Any (f a s))(r:Std.Legacy.Range)(a0:γ):z4 P Any (forIn r a0 f):=by
 rw[Std.Legacy.Range.forIn_eq_forIn_range'];exact z4.forInList f h _ a0
theorem z4.mapMLoop (f:α→Sem β)(h:∀a,z4 P Any (f a)):∀(l:List α) (a0:List β),z4 P Any (List.mapM.loop f l a0)
 |[],a0=>trivial
 |a::l,a0=>by
  unfold List.mapM.loop;exact z4.bind0 (h a) fun b=>z4.mapMLoop f h l (b::a0)
theorem z4.mapMList (f:α→Sem β)(h:∀a,z4 P Any (f a))(l:List α):z4 P Any (l.mapM f):=z4.mapMLoop f h l []
theorem z4.mapMArray (f:α→Sem β)(h:∀a,z4 P Any (f a))(as:Array α):z4 P Any (as.mapM f):=by
 rw[Array.mapM_eq_mapM_toList];exact z4.map0 (z4.mapMList f h as.toList)
theorem z4.ite {c:Prop} [Decidable c] {F:α→Prop}{x y:Sem α}(h1:c→z4 P F x)(h2:¬c→z4 P F y):z4 P F (if c then x else y):=by
 by_cases h:c
 ·rw[if_pos h];exact h1 h
 ·rw[if_neg h];exact h2 h
theorem z4.foldlMList {γ:Type}(f:γ→α→Sem γ)(h:∀a s,z4 P Any (f s a)):∀(l:List α) (a0:γ),z4 P Any (l.foldlM f a0)
 |[],_=>trivial
 |a::l,a0=>by
  rw[List.foldlM_cons];exact z4.bind0 (h a a0) fun b=>z4.foldlMList f h l b
theorem z4.forInList' {γ:Type}:∀(l:List α) (f:(a:α)→a∈l→γ→Sem (ForInStep γ)) (_:∀a h s,z4 P Any (f a h s)) (a0:γ),z4 P Any (forIn' l a0 f)
 |[],f,h,a0=>by simp only[List.forIn'_nil];trivial
 |a::l,f,h,a0=>by
  simp only[List.forIn'_cons];refine z4.bind0 (h a _ a0) (fun r=> ?_)
  cases r with
  |done b=>trivial
  |yield b=>exact z4.forInList' l _ (fun a h' s=>h a _ s) b
theorem z4.forInRange' {γ:Type}(r:Std.Legacy.Range)(f:(a:Nat)→a∈r→γ→Sem (ForInStep γ))(h:∀a h s,z4 P Any (f a h s))(a0:γ):z4 P Any (forIn' r a0 f):=by
 rw[Std.Legacy.Range.forIn'_eq_forIn'_range'];exact z4.forInList' _ _ (fun a h' s=>h a _ s) a0
theorem ZE {F:α→Prop}(s:String):z4 P F (stuck s:Sem α):=trivial
theorem zq {F:α→Prop}(u:Unsupported):z4 P F (unsupported u:Sem α):=trivial
theorem ue:z4 P (·=P) (program:Sem Program):=rfl
theorem yv (a:Addr)(m:Mode):z4 P Any (load a m):=fun _=>trivial
theorem ZQ (a:Addr)(v:Value)(m:Mode):z4 P Any (store a v m):=trivial
theorem yh (o:Obj):z4 P Any (newObj o):=fun _=>trivial
theorem yj (a:Addr):z4 P Any (frozen a):=fun _=>trivial
theorem Zh (q:Question):z4 P Any (choose q):=fun _=>trivial
theorem G1 (m:Mark)(h:fm m):z4 P Any (mark m):=⟨h,trivial⟩
theorem zi:z4 P Any (mark .noRoom):=⟨⟨by simp,by simp⟩,trivial⟩
theorem zQ:z4 P Any (program:Sem Program):=trivial
end
theorem zr {P:Program}:(∀a6,z4 P Any (askRoom a6))∧
  (∀r,z4 P Any (viewAt r))∧
  (∀r,z4 P Any (numberAt r))∧
  (∀r,z4 P Any (cellsIn r))∧
  (∀a a8,z4 P Any (asNumber a a8))∧
  (∀a,z4 P Any (markStringish a))∧
  (∀a,z4 P Any (stringish a))∧
  (∀t,z4 P Any (typeInfo t))∧
  (∀t,z4 P Any (underlying t))∧
  (∀name,z4 P Any (cutType name))∧
  (∀name,z4 P Any (globalAddr name))∧
  (∀a7 a1,z4 P Any (newRow a7 a1))∧
  (∀{α:Type} (b1:String),z4 P Any (Go.panicString b1:Sem α))∧
  (∀y1,z4 P Any (asIntOf y1))∧
  (∀y1,z4 P Any (asBool y1))∧
  (∀y1,z4 P Any (asString y1))∧
  (∀y1,z4 P Any (asAgg y1))∧
  (∀a u n,z4 P Any (variablesAt a u n))∧
  (∀k a n,z4 P Any (intVariablesAt k a n))∧
  (∀op k x y,z4 P Any (Op.floatArith op k x y))∧
  (∀op k x y,z4 P Any (Op.floatCmp op k x y))∧
  (∀op k x y,z4 P Any (Op.intArith op k x y))∧
  (∀op k x y,z4 P Any (Op.intBits op k x y))∧
  (∀op x y,z4 P Any (Op.intCmp op x y))∧
  (∀op x y,z4 P Any (Op.stringOp op x y))∧
  (∀a9 a3 a4,z4 P Any (Conv.floatToFloat a9 a3 a4))∧
  (∀a9 a3 a4,z4 P Any (Conv.floatToInt a9 a3 a4))∧
  (∀a4 n,z4 P Any (Conv.intToFloat a4 n))∧
  (∀a4 n,z4 P Any (Conv.intToInt a4 n))∧
  (∀n,z4 P Any (Conv.intToString n))∧
  (∀a a1,z4 P Any (Builtin.holdsCells a a1))∧
  (∀y1,z4 P Any (Builtin.lenOf y1))∧
  (∀y1,z4 P Any (Instr.sureAddr y1))∧
  (∀a5,z4 P Any (Instr.entry a5))∧
  (∀fn first a0,z4 P Any (Instr.makeFunc fn first a0))∧
  (∀b2 new,z4 P Any (Instr.keyThatStays b2 new))∧
  (∀a5 a2 _type,z4 P Any (Instr.next a5 a2 _type))∧
  (∀l,z4 P Any (Instr.getLoop l))∧
  (∀block,z4 P Any (Instr.takeDeferred block))∧
  (∀g,z4 P Any (Instr.waits g))∧
  (∀g,z4 P Any (Instr.ready g)):=by
 refine⟨?_,?_,?_,?_,?_,?_,?_,?_,?_,?_,?_,?_,?_,?_,?_,?_,?_,?_,?_,?_,?_,?_,?_,?_,?_,?_,?_,?_,?_,?_,?_,?_,?_,?_,?_,?_,?_,?_,?_,?_,?_⟩<;>intros<;>(first|unfold Go.askRoom|unfold Go.viewAt|unfold Go.numberAt|unfold Go.cellsIn|unfold Go.asNumber|unfold Go.markStringish|unfold Go.stringish|unfold Go.typeInfo|unfold Go.underlying|unfold Go.cutType|unfold Go.globalAddr|unfold Go.newRow|unfold Go.panicString|unfold Go.asIntOf|unfold Go.asBool|unfold Go.asString|unfold Go.asAgg|unfold Go.variablesAt|unfold Go.intVariablesAt|unfold Go.Op.floatArith|unfold Go.Op.floatCmp|unfold Go.Op.intArith|unfold Go.Op.intBits|unfold Go.Op.intCmp|unfold Go.Op.stringOp|unfold Go.Conv.floatToFloat|unfold Go.Conv.floatToInt|unfold Go.Conv.intToFloat|unfold Go.Conv.intToInt|unfold Go.Conv.intToString|unfold Go.Builtin.holdsCells|unfold Go.Builtin.lenOf|unfold Go.Instr.sureAddr|unfold Go.Instr.entry|unfold Go.Instr.makeFunc|unfold Go.Instr.keyThatStays|unfold Go.Instr.next|unfold Go.Instr.getLoop|unfold Go.Instr.takeDeferred|unfold Go.Instr.waits|unfold Go.Instr.ready)
 all_goals
  repeat' (first|exact trivial|exact fun _=>trivial|with_reducible (first|assumption|exact zi|apply z4.bind0|apply z4.map0|apply z4.forInArray|apply z4.forInRange|apply z4.forInList|apply z4.mapMArray|apply z4.mapMList|apply z4.foldlMList|apply z4.forInRange' |apply z4.ite|intro _)|split|dsimp only)
theorem Vb {P}(bytes):z4 P Any (askRoom bytes):=zr.1 _
theorem Xc {P}(r):z4 P Any (viewAt r):=zr.2.1 _
theorem QK {P}(r):z4 P Any (numberAt r):=zr.2.2.1 _
theorem ui {P}(r):z4 P Any (cellsIn r):=zr.2.2.2.1 _
theorem QM {P}(a)(lost):z4 P Any (asNumber a lost):=zr.2.2.2.2.1 _ _
theorem yK {P}(a):z4 P Any (markStringish a):=zr.2.2.2.2.2.1 _
theorem j1 {P}(a):z4 P Any (stringish a):=zr.2.2.2.2.2.2.1 _
theorem Za {P}(t):z4 P Any (typeInfo t):=zr.2.2.2.2.2.2.2.1 _
theorem zj {P}(t):z4 P Any (underlying t):=zr.2.2.2.2.2.2.2.2.1 _
theorem Ka {P}(name):z4 P Any (globalAddr name):=zr.2.2.2.2.2.2.2.2.2.2.1 _
theorem YQ {P}(elem)(cells):z4 P Any (newRow elem cells):=zr.2.2.2.2.2.2.2.2.2.2.2.1 _ _
theorem qg {P}(y1):z4 P Any (asIntOf y1):=zr.2.2.2.2.2.2.2.2.2.2.2.2.2.1 _
theorem kR {P}(y1):z4 P Any (asBool y1):=zr.2.2.2.2.2.2.2.2.2.2.2.2.2.2.1 _
theorem YH {P}(y1):z4 P Any (asString y1):=zr.2.2.2.2.2.2.2.2.2.2.2.2.2.2.2.1 _
theorem j4 {P}(y1):z4 P Any (asAgg y1):=zr.2.2.2.2.2.2.2.2.2.2.2.2.2.2.2.2.1 _
theorem Yt {P}(a)(u)(n):z4 P Any (variablesAt a u n):=zr.2.2.2.2.2.2.2.2.2.2.2.2.2.2.2.2.2.1 _ _ _
theorem Qx {P}(k)(a)(n):z4 P Any (intVariablesAt k a n):=zr.2.2.2.2.2.2.2.2.2.2.2.2.2.2.2.2.2.2.1 _ _ _
theorem xG {P}(op)(k)(x)(y):z4 P Any (Op.floatArith op k x y):=zr.2.2.2.2.2.2.2.2.2.2.2.2.2.2.2.2.2.2.2.1 _ _ _ _
theorem Xy {P}(op)(k)(x)(y):z4 P Any (Op.floatCmp op k x y):=zr.2.2.2.2.2.2.2.2.2.2.2.2.2.2.2.2.2.2.2.2.1 _ _ _ _
theorem j6 {P}(op)(x)(y):z4 P Any (Op.intCmp op x y):=zr.2.2.2.2.2.2.2.2.2.2.2.2.2.2.2.2.2.2.2.2.2.2.2.1 _ _ _
theorem Xx {P}(op)(x)(y):z4 P Any (Op.stringOp op x y):=zr.2.2.2.2.2.2.2.2.2.2.2.2.2.2.2.2.2.2.2.2.2.2.2.2.1 _ _ _
theorem Ye {P}(src)(bits)(dst):z4 P Any (Conv.floatToFloat src bits dst):=zr.2.2.2.2.2.2.2.2.2.2.2.2.2.2.2.2.2.2.2.2.2.2.2.2.2.1 _ _ _
theorem qV {P}(src)(bits)(dst):z4 P Any (Conv.floatToInt src bits dst):=zr.2.2.2.2.2.2.2.2.2.2.2.2.2.2.2.2.2.2.2.2.2.2.2.2.2.2.1 _ _ _
theorem XI {P}(a)(cells):z4 P Any (Builtin.holdsCells a cells):=zr.2.2.2.2.2.2.2.2.2.2.2.2.2.2.2.2.2.2.2.2.2.2.2.2.2.2.2.2.2.2.1 _ _
theorem vq {P}(y1):z4 P Any (Builtin.lenOf y1):=zr.2.2.2.2.2.2.2.2.2.2.2.2.2.2.2.2.2.2.2.2.2.2.2.2.2.2.2.2.2.2.2.1 _
theorem yy {P}(y1):z4 P Any (Instr.sureAddr y1):=zr.2.2.2.2.2.2.2.2.2.2.2.2.2.2.2.2.2.2.2.2.2.2.2.2.2.2.2.2.2.2.2.2.1 _
theorem kg {P}(iter):z4 P Any (Instr.entry iter):=zr.2.2.2.2.2.2.2.2.2.2.2.2.2.2.2.2.2.2.2.2.2.2.2.2.2.2.2.2.2.2.2.2.2.1 _
theorem QA {P}(fn)(first)(captured):z4 P Any (Instr.makeFunc fn first captured):=zr.2.2.2.2.2.2.2.2.2.2.2.2.2.2.2.2.2.2.2.2.2.2.2.2.2.2.2.2.2.2.2.2.2.2.1 _ _ _
theorem XB {P}(old)(new):z4 P Any (Instr.keyThatStays old new):=zr.2.2.2.2.2.2.2.2.2.2.2.2.2.2.2.2.2.2.2.2.2.2.2.2.2.2.2.2.2.2.2.2.2.2.2.1 _ _
theorem Kg {P}(iter)(isString)(_type):z4 P Any (Instr.next iter isString _type):=zr.2.2.2.2.2.2.2.2.2.2.2.2.2.2.2.2.2.2.2.2.2.2.2.2.2.2.2.2.2.2.2.2.2.2.2.2.1 _ _ _
theorem yM {P}(l):z4 P Any (Instr.getLoop l):=zr.2.2.2.2.2.2.2.2.2.2.2.2.2.2.2.2.2.2.2.2.2.2.2.2.2.2.2.2.2.2.2.2.2.2.2.2.2.1 _
theorem yV {P}(block):z4 P Any (Instr.takeDeferred block):=zr.2.2.2.2.2.2.2.2.2.2.2.2.2.2.2.2.2.2.2.2.2.2.2.2.2.2.2.2.2.2.2.2.2.2.2.2.2.2.1 _
theorem kc {P}(g):z4 P Any (Instr.waits g):=zr.2.2.2.2.2.2.2.2.2.2.2.2.2.2.2.2.2.2.2.2.2.2.2.2.2.2.2.2.2.2.2.2.2.2.2.2.2.2.2.1 _
theorem ke {P}(g):z4 P Any (Instr.ready g):=zr.2.2.2.2.2.2.2.2.2.2.2.2.2.2.2.2.2.2.2.2.2.2.2.2.2.2.2.2.2.2.2.2.2.2.2.2.2.2.2.2 _
theorem vd {P:Program}(a:Addr)(i:Nat)(y1:Nat)(y2:Array Value):z4 P Any (Go.loadCellsFrom a i y1 y2):=by
 induction y1 generalizing i y2 with
 |zero=> ?_
 |succ n ih=> ?_
 all_goals
  unfold Go.loadCellsFrom;repeat' (first|exact trivial|exact fun _=>trivial|with_reducible (first|assumption|exact zi|exact ih _ _|apply z4.bind0|apply z4.map0|apply z4.forInArray|apply z4.forInRange|apply z4.forInList|apply z4.mapMArray|apply z4.mapMList|apply z4.foldlMList|apply z4.forInRange' |apply z4.ite|intro _)|split|dsimp only)
theorem x6 {P:Program}(a:Addr)(vs:List Value)(i:Nat):z4 P Any (Go.storeCells a vs i):=by
 induction vs generalizing i with
 |nil=> ?_
 |cons x l ih=> ?_
 all_goals
  unfold Go.storeCells;repeat' (first|exact trivial|exact fun _=>trivial|with_reducible (first|assumption|exact zi|exact ih _|apply z4.bind0|apply z4.map0|apply z4.forInArray|apply z4.forInRange|apply z4.forInList|apply z4.mapMArray|apply z4.mapMList|apply z4.foldlMList|apply z4.forInRange' |apply z4.ite|intro _)|split|dsimp only)
theorem j3 {P:Program}(a:Addr)(a0:ByteArray)(y1:Nat):z4 P Any (Go.loadBytes a a0 y1):=by
 induction y1 generalizing a a0 with
 |zero=> ?_
 |succ n ih=> ?_
 all_goals
  unfold Go.loadBytes;repeat' (first|exact trivial|exact fun _=>trivial|with_reducible (first|assumption|exact zi|exact ih _ _|apply z4.bind0|apply z4.map0|apply z4.forInArray|apply z4.forInRange|apply z4.forInList|apply z4.mapMArray|apply z4.mapMList|apply z4.foldlMList|apply z4.forInRange' |apply z4.ite|intro _)|split|dsimp only)
theorem qF {P:Program}(_argTypes:Array TypeId)(_type:TypeId)(args:Array Value):z4 P Any (Go.Builtin.complex_ _argTypes _type args):=by
 unfold Go.Builtin.complex_;obtain⟨l⟩:=args;rcases l with _|⟨a,_|⟨b,_|⟨c,l⟩⟩⟩
 ·exact trivial
 ·exact trivial
 ·cases a<;>first|exact trivial|(cases b<;>first|exact trivial|exact z4.ite (fun _=>trivial) (fun _=>trivial))
 ·exact trivial
theorem vr {P:Program}(_argTypes:Array TypeId)(_type:TypeId)(args:Array Value):z4 P Any (Go.Builtin.imag_ _argTypes _type args):=by
 unfold Go.Builtin.imag_;obtain⟨l⟩:=args;rcases l with _|⟨a,_|⟨b,_|⟨c,_|⟨d,l⟩⟩⟩⟩
 all_goals first
  |exact trivial
  |(cases a<;>first|exact trivial|skip)
 all_goals(try rename_i o;cases o)
 all_goals try(first|exact trivial|refine z4.bind0 ?_ (fun _=> ?_)|refine z4.ite (fun _=> ?_) (fun _=> ?_))
 all_goals
  repeat' (first|exact trivial|exact fun _=>trivial|with_reducible (first|assumption|exact zi|apply z4.bind0|apply z4.map0|apply z4.forInArray|apply z4.forInRange|apply z4.forInList|apply z4.mapMArray|apply z4.mapMList|apply z4.foldlMList|apply z4.forInRange' |apply z4.ite|intro _)|split|dsimp only)
theorem vp {P:Program}(_argTypes:Array TypeId)(_type:TypeId)(args:Array Value):z4 P Any (Go.Builtin.real_ _argTypes _type args):=by
 unfold Go.Builtin.real_;obtain⟨l⟩:=args;rcases l with _|⟨a,_|⟨b,_|⟨c,_|⟨d,l⟩⟩⟩⟩
 all_goals first
  |exact trivial
  |(cases a<;>first|exact trivial|skip)
 all_goals(try rename_i o;cases o)
 all_goals try(first|exact trivial|refine z4.bind0 ?_ (fun _=> ?_)|refine z4.ite (fun _=> ?_) (fun _=> ?_))
 all_goals
  repeat' (first|exact trivial|exact fun _=>trivial|with_reducible (first|assumption|exact zi|apply z4.bind0|apply z4.map0|apply z4.forInArray|apply z4.forInRange|apply z4.forInList|apply z4.mapMArray|apply z4.mapMList|apply z4.foldlMList|apply z4.forInRange' |apply z4.ite|intro _)|split|dsimp only)
theorem Qy {P:Program}:z4 P Any (Go.Instr.panicnil):=by
 unfold Go.Instr.panicnil;refine⟨⟨_,rfl,trivial⟩,fun r=> ?_⟩
 cases r<;>exact trivial
theorem zD {P:Program}:(∀n,z4 P Any (behindNumber n))∧
  (∀a,z4 P Any (noView a))∧
  (∀a b,z4 P Any (mayBeOne a b))∧
  (∀t,z4 P Any (typeStr t))∧
  (∀t,z4 P Any (zeroValue t))∧
  (∀t,z4 P Any (sizeOf t))∧
  (∀t,z4 P Any (isAgg t))∧
  (∀a n,z4 P Any (loadCells a n))∧
  (∀t v,z4 P Any (newVar t v))∧
  (∀t,z4 P Any (elemOf t))∧
  (∀v,z4 P Any (asInt v))∧
  (∀a n,z4 P Any (byteVariablesAt a n))∧
  (∀a b,z4 P Any (storeBytes a b))∧
  (∀op x,z4 P Any (Op.unary op x))∧
  (∀a3 s,z4 P Any (Conv.stringToBytes a3 s))∧
  (∀a3 s,z4 P Any (Conv.stringToRunes a3 s))∧
  (∀a,z4 P Any (Conv.seenAt a))∧
  (∀size a8 n base x,z4 P Any (Builtin.mayShare size a8 n base x))∧
  (∀argTypes _type args,z4 P Any (Builtin.cap_ argTypes _type args))∧
  (∀argTypes _type args,z4 P Any (Builtin.len_ argTypes _type args))∧
  (∀y1 y2,z4 P Any (Builtin.max2 y1 y2))∧
  (∀y1 y2,z4 P Any (Builtin.min2 y1 y2))∧
  (∀t v,z4 P Any (Builtin.printOne t v))∧
  (∀a0 x,z4 P Any (Instr.makeInterface a0 x))∧
  (∀a0 x,z4 P Any (Instr.range a0 x))∧
  (∀fn tmps a4 a2 a5 a1,z4 P Any (Instr.enterLoop fn tmps a4 a2 a5 a1))∧
  (∀l args,z4 P Any (Instr.yield l args))∧
  (∀l a7,z4 P Any (Instr.endRound l a7))∧
  (∀l d,z4 P Any (Instr.deferInRound l d))∧
  (∀op k x y,z4 P Any (Op.Complex.arith op k x y))∧
  (∀op k x y,z4 P Any (Op.Complex.cmp op k x y))∧
  (∀a9 x a6,z4 P Any (Op.Complex.conv a9 x a6))∧
  (∀a9 re im a6,z4 P Any (Conv.complexToComplex a9 re im a6)):=by
 refine⟨?_,?_,?_,?_,?_,?_,?_,?_,?_,?_,?_,?_,?_,?_,?_,?_,?_,?_,?_,?_,?_,?_,?_,?_,?_,?_,?_,?_,?_,?_,?_,?_,?_⟩<;>intros<;>(first|unfold Go.behindNumber|unfold Go.noView|unfold Go.mayBeOne|unfold Go.typeStr|unfold Go.zeroValue|unfold Go.sizeOf|unfold Go.isAgg|unfold Go.loadCells|unfold Go.newVar|unfold Go.elemOf|unfold Go.asInt|unfold Go.byteVariablesAt|unfold Go.storeBytes|unfold Go.Op.unary|unfold Go.Conv.stringToBytes|unfold Go.Conv.stringToRunes|unfold Go.Conv.seenAt|unfold Go.Builtin.mayShare|unfold Go.Builtin.cap_|unfold Go.Builtin.len_|unfold Go.Builtin.max2|unfold Go.Builtin.min2|unfold Go.Builtin.printOne|unfold Go.Instr.makeInterface|unfold Go.Instr.range|unfold Go.Instr.enterLoop|unfold Go.Instr.yield|unfold Go.Instr.endRound|unfold Go.Instr.deferInRound|unfold Go.Op.Complex.arith|unfold Go.Op.Complex.cmp|unfold Go.Op.Complex.conv|unfold Go.Conv.complexToComplex)
 all_goals
  repeat' (first|exact trivial|exact fun _=>trivial|with_reducible (first|assumption|exact zi|exact(QK _)|exact(Xc _)|exact(j1 _)|exact(Za _)|exact(zj _)|exact(vd _ _ _ _)|exact(YQ _ _)|exact(qg _)|exact(Qx _ _ _)|exact(x6 _ _ _)|exact(mild_Op_intArith _ _ _ _)|exact(mild_Op_intBits _ _ _ _)|exact(yK _)|exact(XI _ _)|exact(Xx _ _ _)|exact(kR _)|exact(yM _)|exact(xG _ _ _ _)|exact(Xy _ _ _ _)|exact(Ye _ _ _)|apply z4.bind0|apply z4.map0|apply z4.forInArray|apply z4.forInRange|apply z4.forInList|apply z4.mapMArray|apply z4.mapMList|apply z4.foldlMList|apply z4.forInRange' |apply z4.ite|intro _)|split|dsimp only)
theorem y6 {P}(n):z4 P Any (behindNumber n):=zD.1 _
theorem kM {P}(a):z4 P Any (noView a):=zD.2.1 _
theorem QL {P}(a)(b):z4 P Any (mayBeOne a b):=zD.2.2.1 _ _
theorem qe {P}(t):z4 P Any (typeStr t):=zD.2.2.2.1 _
theorem yg {P}(t):z4 P Any (zeroValue t):=zD.2.2.2.2.1 _
theorem Zm {P}(t):z4 P Any (sizeOf t):=zD.2.2.2.2.2.1 _
theorem Oo {P}(t):z4 P Any (isAgg t):=zD.2.2.2.2.2.2.1 _
theorem j2 {P}(a)(n):z4 P Any (loadCells a n):=zD.2.2.2.2.2.2.2.1 _ _
theorem Xd {P}(t)(v):z4 P Any (newVar t v):=zD.2.2.2.2.2.2.2.2.1 _ _
theorem yk {P}(t):z4 P Any (elemOf t):=zD.2.2.2.2.2.2.2.2.2.1 _
theorem yL {P}(v):z4 P Any (asInt v):=zD.2.2.2.2.2.2.2.2.2.2.1 _
theorem jL {P}(op)(x):z4 P Any (Op.unary op x):=zD.2.2.2.2.2.2.2.2.2.2.2.2.2.1 _ _
theorem XF {P}(elem)(s):z4 P Any (Conv.stringToBytes elem s):=zD.2.2.2.2.2.2.2.2.2.2.2.2.2.2.1 _ _
theorem XE {P}(elem)(s):z4 P Any (Conv.stringToRunes elem s):=zD.2.2.2.2.2.2.2.2.2.2.2.2.2.2.2.1 _ _
theorem kj {P}(a):z4 P Any (Conv.seenAt a):=zD.2.2.2.2.2.2.2.2.2.2.2.2.2.2.2.2.1 _
theorem qE {P}(size)(sLen)(n)(base)(x):z4 P Any (Builtin.mayShare size sLen n base x):=zD.2.2.2.2.2.2.2.2.2.2.2.2.2.2.2.2.2.1 _ _ _ _ _
theorem Vl {P}(argTypes)(_type)(args):z4 P Any (Builtin.cap_ argTypes _type args):=zD.2.2.2.2.2.2.2.2.2.2.2.2.2.2.2.2.2.2.1 _ _ _
theorem y7 {P}(argTypes)(_type)(args):z4 P Any (Builtin.len_ argTypes _type args):=zD.2.2.2.2.2.2.2.2.2.2.2.2.2.2.2.2.2.2.2.1 _ _ _
theorem Vk {P}(y1)(y2):z4 P Any (Builtin.max2 y1 y2):=zD.2.2.2.2.2.2.2.2.2.2.2.2.2.2.2.2.2.2.2.2.1 _ _
theorem Vi {P}(y1)(y2):z4 P Any (Builtin.min2 y1 y2):=zD.2.2.2.2.2.2.2.2.2.2.2.2.2.2.2.2.2.2.2.2.2.1 _ _
theorem qD {P}(t)(v):z4 P Any (Builtin.printOne t v):=zD.2.2.2.2.2.2.2.2.2.2.2.2.2.2.2.2.2.2.2.2.2.2.1 _ _
theorem Xk {P}(xType)(x):z4 P Any (Instr.makeInterface xType x):=zD.2.2.2.2.2.2.2.2.2.2.2.2.2.2.2.2.2.2.2.2.2.2.2.1 _ _
theorem kf {P}(xType)(x):z4 P Any (Instr.range xType x):=zD.2.2.2.2.2.2.2.2.2.2.2.2.2.2.2.2.2.2.2.2.2.2.2.2.1 _ _
theorem YT {P}(fn)(tmps)(params)(assign)(body)(around):z4 P Any (Instr.enterLoop fn tmps params assign body around):=zD.2.2.2.2.2.2.2.2.2.2.2.2.2.2.2.2.2.2.2.2.2.2.2.2.2.1 _ _ _ _ _ _
theorem xh {P}(l)(jump):z4 P Any (Instr.endRound l jump):=zD.2.2.2.2.2.2.2.2.2.2.2.2.2.2.2.2.2.2.2.2.2.2.2.2.2.2.2.1 _ _
theorem yW {P}(l)(d):z4 P Any (Instr.deferInRound l d):=zD.2.2.2.2.2.2.2.2.2.2.2.2.2.2.2.2.2.2.2.2.2.2.2.2.2.2.2.2.1 _ _
theorem zS {P}(op)(k)(x)(y):z4 P Any (Op.Complex.arith op k x y):=zD.2.2.2.2.2.2.2.2.2.2.2.2.2.2.2.2.2.2.2.2.2.2.2.2.2.2.2.2.2.1 _ _ _ _
theorem qT {P}(src)(x)(dst):z4 P Any (Op.Complex.conv src x dst):=zD.2.2.2.2.2.2.2.2.2.2.2.2.2.2.2.2.2.2.2.2.2.2.2.2.2.2.2.2.2.2.2.1 _ _ _
theorem xI {P}(src)(re)(im)(dst):z4 P Any (Conv.complexToComplex src re im dst):=zD.2.2.2.2.2.2.2.2.2.2.2.2.2.2.2.2.2.2.2.2.2.2.2.2.2.2.2.2.2.2.2.2 _ _ _ _
theorem Zf {P:Program}:(∀n,z4 P Any (backFromNumber n))∧
  (∀a b,z4 P Any (sameAddr a b))∧
  (∀t a,z4 P Any (loadVar t a))∧
  (∀t a v,z4 P Any (storeVar t a v))∧
  (∀t cs off,z4 P Any (part t cs off))∧
  (∀{α:Type} (e:RuntimeError),z4 P Any (Go.runtimePanic e:Sem α))∧
  (∀a,z4 P Any (byteOf a))∧
  (∀x,z4 P Any (Conv.bytesToString x))∧
  (∀x,z4 P Any (Conv.runesToString x))∧
  (∀a6 a5 x,z4 P Any (Conv.unsafePointer a6 a5 x))∧
  (∀size n y1,z4 P Any (Builtin.firstCells size n y1))∧
  (∀argTypes _type args,z4 P Any (Builtin.clear_ argTypes _type args))∧
  (∀_argTypes _type args,z4 P Any (Builtin.max_ _argTypes _type args))∧
  (∀_argTypes _type args,z4 P Any (Builtin.min_ _argTypes _type args))∧
  (∀ln a2 argTypes args,z4 P Any (Builtin.pieces ln a2 argTypes args))∧
  (∀a4 v,z4 P Any (Instr.box a4 v))∧
  (∀t a0,z4 P Any (Instr.build t a0))∧
  (∀t len a0,z4 P Any (Instr.buildSlice t len a0))∧
  (∀t a1,z4 P Any (Instr.makeMap t a1))∧
  (∀_mapType map a3 value,z4 P Any (Instr.entryStore _mapType map a3 value)):=by
 refine⟨?_,?_,?_,?_,?_,?_,?_,?_,?_,?_,?_,?_,?_,?_,?_,?_,?_,?_,?_,?_⟩<;>intros<;>(first|unfold Go.backFromNumber|unfold Go.sameAddr|unfold Go.loadVar|unfold Go.storeVar|unfold Go.part|unfold Go.runtimePanic|unfold Go.byteOf|unfold Go.Conv.bytesToString|unfold Go.Conv.runesToString|unfold Go.Conv.unsafePointer|unfold Go.Builtin.firstCells|unfold Go.Builtin.clear_|unfold Go.Builtin.max_|unfold Go.Builtin.min_|unfold Go.Builtin.pieces|unfold Go.Instr.box|unfold Go.Instr.build|unfold Go.Instr.buildSlice|unfold Go.Instr.makeMap|unfold Go.Instr.entryStore)
 all_goals
  repeat' (first|exact trivial|exact fun _=>trivial|with_reducible (first|assumption|exact zi|exact(y6 _)|exact(QL _ _)|exact(kM _)|exact(Oo _)|exact(j2 _ _)|exact(Zm _)|exact(x6 _ _ _)|exact(yk _)|exact(Xd _ _)|exact(kj _)|exact(QM _ _)|exact(ui _)|exact(zj _)|exact(Yt _ _ _)|exact(yg _)|exact(Vk _ _)|exact(Vi _ _)|exact(qD _ _)|exact(YQ _ _)|exact(yL _)|apply z4.bind0|apply z4.map0|apply z4.forInArray|apply z4.forInRange|apply z4.forInList|apply z4.mapMArray|apply z4.mapMList|apply z4.foldlMList|apply z4.forInRange' |apply z4.ite|intro _)|split|dsimp only)
theorem QJ {P}(a)(b):z4 P Any (sameAddr a b):=Zf.2.1 _ _
theorem qf {P}(t)(a):z4 P Any (loadVar t a):=Zf.2.2.1 _ _
theorem jJ {P}(t)(a)(v):z4 P Any (storeVar t a v):=Zf.2.2.2.1 _ _ _
theorem Yu {P}(t)(cs)(off):z4 P Any (part t cs off):=Zf.2.2.2.2.1 _ _ _
theorem zy {P:Program}{α:Type}(e:RuntimeError):z4 P Any (Go.runtimePanic e:Sem α):=Zf.2.2.2.2.2.1 _
theorem kQ {P}(a):z4 P Any (byteOf a):=Zf.2.2.2.2.2.2.1 _
theorem XH {P}(x):z4 P Any (Conv.bytesToString x):=Zf.2.2.2.2.2.2.2.1 _
theorem XG {P}(x):z4 P Any (Conv.runesToString x):=Zf.2.2.2.2.2.2.2.2.1 _
theorem XD {P}(src)(dst)(x):z4 P Any (Conv.unsafePointer src dst x):=Zf.2.2.2.2.2.2.2.2.2.1 _ _ _
theorem XJ {P}(size)(n)(y1):z4 P Any (Builtin.firstCells size n y1):=Zf.2.2.2.2.2.2.2.2.2.2.1 _ _ _
theorem QF {P}(argTypes)(_type)(args):z4 P Any (Builtin.clear_ argTypes _type args):=Zf.2.2.2.2.2.2.2.2.2.2.2.1 _ _ _
theorem Vj {P}(_argTypes)(_type)(args):z4 P Any (Builtin.max_ _argTypes _type args):=Zf.2.2.2.2.2.2.2.2.2.2.2.2.1 _ _ _
theorem Vh {P}(_argTypes)(_type)(args):z4 P Any (Builtin.min_ _argTypes _type args):=Zf.2.2.2.2.2.2.2.2.2.2.2.2.2.1 _ _ _
theorem QD {P}(ln)(consts)(argTypes)(args):z4 P Any (Builtin.pieces ln consts argTypes args):=Zf.2.2.2.2.2.2.2.2.2.2.2.2.2.2.1 _ _ _ _
theorem j7 {P}(elem)(v):z4 P Any (Instr.box elem v):=Zf.2.2.2.2.2.2.2.2.2.2.2.2.2.2.2.1 _ _
theorem kh {P}(t)(parts):z4 P Any (Instr.build t parts):=Zf.2.2.2.2.2.2.2.2.2.2.2.2.2.2.2.2.1 _ _
theorem qC {P}(t)(len)(parts):z4 P Any (Instr.buildSlice t len parts):=Zf.2.2.2.2.2.2.2.2.2.2.2.2.2.2.2.2.2.1 _ _ _
theorem vg {P}(t)(reserve):z4 P Any (Instr.makeMap t reserve):=Zf.2.2.2.2.2.2.2.2.2.2.2.2.2.2.2.2.2.2.1 _ _
theorem qB {P}(_mapType)(map)(stamp)(value):z4 P Any (Instr.entryStore _mapType map stamp value):=Zf.2.2.2.2.2.2.2.2.2.2.2.2.2.2.2.2.2.2.2 _ _ _ _
theorem ZK {P:Program}(_argTypes:Array TypeId)(_type:TypeId)(args:Array Value):z4 P Any (Go.Builtin.unsafeAdd_ _argTypes _type args):=by
 unfold Go.Builtin.unsafeAdd_;obtain⟨l⟩:=args;rcases l with _|⟨a,_|⟨b,_|⟨c,_|⟨d,l⟩⟩⟩⟩
 all_goals first
  |exact trivial
  |(cases a<;>first|exact trivial|skip)
 all_goals(try rename_i o;cases o)
 all_goals try(first|exact trivial|refine z4.bind0 ?_ (fun _=> ?_)|refine z4.ite (fun _=> ?_) (fun _=> ?_))
 all_goals
  repeat' (first|exact trivial|exact fun _=>trivial|with_reducible (first|assumption|exact zi|exact(y7 _ _ _)|exact(yL _)|exact(Xc _)|apply z4.bind0|apply z4.map0|apply z4.forInArray|apply z4.forInRange|apply z4.forInList|apply z4.mapMArray|apply z4.mapMList|apply z4.foldlMList|apply z4.forInRange' |apply z4.ite|intro _)|split|dsimp only)
theorem YU {P:Program}(_argTypes:Array TypeId)(a0:TypeId)(args:Array Value):z4 P Any (Go.Builtin.unsafeSliceData_ _argTypes a0 args):=by
 unfold Go.Builtin.unsafeSliceData_;obtain⟨l⟩:=args;rcases l with _|⟨a,_|⟨b,l⟩⟩
 ·exact trivial
 ·cases a with
  |slice base n c=>
   cases base with
   |none=>exact trivial
   |some a=>
    refine z4.ite (fun _=>trivial) (fun _=> ?_);refine z4.bind0 (Xc _) (fun _=>z4.ite (fun _=>trivial) (fun _=> ?_));exact z4.bind0 (yk _) fun _=>z4.bind0 (yh _) fun _=>trivial
  |_=>exact trivial
 ·exact trivial
theorem Yw {P:Program}(_argTypes:Array TypeId)(a0:TypeId)(args:Array Value):z4 P Any (Go.Builtin.unsafeStringData_ _argTypes a0 args):=by
 unfold Go.Builtin.unsafeStringData_;obtain⟨l⟩:=args;rcases l with _|⟨a,_|⟨b,_|⟨c,_|⟨d,l⟩⟩⟩⟩
 all_goals first
  |exact trivial
  |(cases a<;>first|exact trivial|skip)
 all_goals(try rename_i o;cases o)
 all_goals try(first|exact trivial|refine z4.bind0 ?_ (fun _=> ?_)|refine z4.ite (fun _=> ?_) (fun _=> ?_))
 all_goals
  repeat' (first|exact trivial|exact fun _=>trivial|with_reducible (first|assumption|exact zi|exact(yk _)|exact(yK _)|exact(YQ _ _)|apply z4.bind0|apply z4.map0|apply z4.forInArray|apply z4.forInRange|apply z4.forInList|apply z4.mapMArray|apply z4.mapMList|apply z4.foldlMList|apply z4.forInRange' |apply z4.ite|intro _)|split|dsimp only)
theorem xg {P:Program}(x y:Nat):z4 P Any (Go.Op.Complex.add x y):=zS _ _ _ _
theorem xd {P:Program}(x y:Nat):z4 P Any (Go.Op.Complex.sub x y):=zS _ _ _ _
theorem xf {P:Program}(x y:Nat):z4 P Any (Go.Op.Complex.mul x y):=zS _ _ _ _
theorem xe {P:Program}(x y:Nat):z4 P Any (Go.Op.Complex.quo x y):=zS _ _ _ _
theorem zT {P:Program}:(∀y1 y2,z4 P Any (samePointer y1 y2))∧
  (∀{α:Type} (k:IntKind) (x y:Int) (a8:BoundsCode),z4 P Any (Go.boundsPanic k x y a8:Sem α))∧
  (∀y1,z4 P Any (asAddr y1))∧
  (∀base a5 a4,z4 P Any (partAt base a5 a4))∧
  (∀a b,z4 P Any (Op.twoPlaces a b))∧
  (∀k a n,z4 P Any (Op.addrMod k a n))∧
  (∀op k x y,z4 P Any (Op.intDiv op k x y))∧
  (∀op k x _yk y,z4 P Any (Op.shift op k x _yk y))∧
  (∀argTypes _type args,z4 P Any (Builtin.append_ argTypes _type args))∧
  (∀argTypes _type args,z4 P Any (Builtin.copy_ argTypes _type args))∧
  (∀t a3,z4 P Any (Instr.loadAt t a3))∧
  (∀t a3 val,z4 P Any (Instr.storeAt t a3 val))∧
  (∀b1 x,z4 P Any (Instr.arrayAt b1 x))∧
  (∀a9 heap b2,z4 P Any (Instr.alloc a9 heap b2))∧
  (∀a1 x a6,z4 P Any (Instr.field a1 x a6))∧
  (∀t size,z4 P Any (Instr.makeChan t size))∧
  (∀t len cap,z4 P Any (Instr.makeSlice t len cap))∧
  (∀t y1,z4 P Any (Place.get t y1))∧
  (∀x,z4 P Any (Instr.panic x))∧
  (∀l,z4 P Any (Instr.beginRound l))∧
  (∀l,z4 P Any (Instr.endLoop l))∧
  (∀x a1 a0 a2,z4 P Any (Instr.typeAssert x a1 a0 a2))∧
  (∀a b c d,z4 P Any (Op.Complex.product a b c d))∧
  (∀a7 a b c d,z4 P Any (Op.Complex.corrected a7 a b c d)):=by
 refine⟨?_,?_,?_,?_,?_,?_,?_,?_,?_,?_,?_,?_,?_,?_,?_,?_,?_,?_,?_,?_,?_,?_,?_,?_⟩<;>intros<;>(first|unfold Go.samePointer|unfold Go.boundsPanic|unfold Go.asAddr|unfold Go.partAt|unfold Go.Op.twoPlaces|unfold Go.Op.addrMod|unfold Go.Op.intDiv|unfold Go.Op.shift|unfold Go.Builtin.append_|unfold Go.Builtin.copy_|unfold Go.Instr.loadAt|unfold Go.Instr.storeAt|unfold Go.Instr.arrayAt|unfold Go.Instr.alloc|unfold Go.Instr.field|unfold Go.Instr.makeChan|unfold Go.Instr.makeSlice|unfold Go.Place.get|unfold Go.Instr.panic|unfold Go.Instr.beginRound|unfold Go.Instr.endLoop|unfold Go.Instr.typeAssert|unfold Go.Op.Complex.product|unfold Go.Op.Complex.corrected)
 all_goals
  repeat' (first|exact trivial|exact fun _=>trivial|with_reducible (first|assumption|exact zi|exact(QJ _ _)|exact(zy _)|exact(kQ _)|exact(Za _)|exact(XJ _ _ _)|exact(vq _)|exact(qE _ _ _ _ _)|exact(yL _)|exact(Vb _)|exact(YQ _ _)|exact(Zm _)|exact(x6 _ _ _)|exact(zj _)|exact(yg _)|exact(yy _)|exact(qf _ _)|exact(jJ _ _ _)|exact(Xd _ _)|exact(j4 _)|exact(Yu _ _ _)|exact(Qy)|exact(yM _)|exact(zS _ _ _ _)|exact(xg _ _)|exact(xd _ _)|exact(xf _ _)|exact(xe _ _)|apply z4.bind0|apply z4.map0|apply z4.forInArray|apply z4.forInRange|apply z4.forInList|apply z4.mapMArray|apply z4.mapMList|apply z4.foldlMList|apply z4.forInRange' |apply z4.ite|intro _)|split|dsimp only)
theorem VW {P}(y1)(y2):z4 P Any (samePointer y1 y2):=zT.1 _ _
theorem Xw {P:Program}{α:Type}(k:IntKind)(x y:Int)(a0:BoundsCode):z4 P Any (Go.boundsPanic k x y a0:Sem α):=zT.2.1 _ _ _ _
theorem YR {P}(y1):z4 P Any (asAddr y1):=zT.2.2.1 _
theorem UC {P}(base)(cells)(bytes):z4 P Any (partAt base cells bytes):=zT.2.2.2.1 _ _ _
theorem Vc {P}(a)(b):z4 P Any (Op.twoPlaces a b):=zT.2.2.2.2.1 _ _
theorem Kd {P}(k)(a)(n):z4 P Any (Op.addrMod k a n):=zT.2.2.2.2.2.1 _ _ _
theorem j5 {P}(op)(k)(x)(y):z4 P Any (Op.intDiv op k x y):=zT.2.2.2.2.2.2.1 _ _ _ _
theorem jM {P}(op)(k)(x)(_yk)(y):z4 P Any (Op.shift op k x _yk y):=zT.2.2.2.2.2.2.2.1 _ _ _ _ _
theorem qX {P}(argTypes)(_type)(args):z4 P Any (Builtin.append_ argTypes _type args):=zT.2.2.2.2.2.2.2.2.1 _ _ _
theorem vt {P}(argTypes)(_type)(args):z4 P Any (Builtin.copy_ argTypes _type args):=zT.2.2.2.2.2.2.2.2.2.1 _ _ _
theorem Vg {P}(t)(addr):z4 P Any (Instr.loadAt t addr):=zT.2.2.2.2.2.2.2.2.2.2.1 _ _
theorem ve {P}(t)(addr)(val):z4 P Any (Instr.storeAt t addr val):=zT.2.2.2.2.2.2.2.2.2.2.2.1 _ _ _
theorem vo {P}(arr)(x):z4 P Any (Instr.arrayAt arr x):=zT.2.2.2.2.2.2.2.2.2.2.2.2.1 _ _
theorem ki {P}(elem)(heap)(old):z4 P Any (Instr.alloc elem heap old):=zT.2.2.2.2.2.2.2.2.2.2.2.2.2.1 _ _ _
theorem XC {P}(xType)(x)(field):z4 P Any (Instr.field xType x field):=zT.2.2.2.2.2.2.2.2.2.2.2.2.2.2.1 _ _ _
theorem QB {P}(t)(size):z4 P Any (Instr.makeChan t size):=zT.2.2.2.2.2.2.2.2.2.2.2.2.2.2.2.1 _ _
theorem qU {P}(t)(len)(cap):z4 P Any (Instr.makeSlice t len cap):=zT.2.2.2.2.2.2.2.2.2.2.2.2.2.2.2.2.1 _ _ _
theorem xF {P}(t)(y1):z4 P Any (Place.get t y1):=zT.2.2.2.2.2.2.2.2.2.2.2.2.2.2.2.2.2.1 _ _
theorem XA {P}(x):z4 P Any (Instr.panic x):=zT.2.2.2.2.2.2.2.2.2.2.2.2.2.2.2.2.2.2.1 _
theorem Yr {P}(l):z4 P Any (Instr.beginRound l):=zT.2.2.2.2.2.2.2.2.2.2.2.2.2.2.2.2.2.2.2.1 _
theorem xH {P}(l):z4 P Any (Instr.endLoop l):=zT.2.2.2.2.2.2.2.2.2.2.2.2.2.2.2.2.2.2.2.2.1 _
theorem qy {P}(x)(xType)(asserted)(commaOk):z4 P Any (Instr.typeAssert x xType asserted commaOk):=zT.2.2.2.2.2.2.2.2.2.2.2.2.2.2.2.2.2.2.2.2.2.1 _ _ _ _
theorem Xz {P}(a)(b)(c)(d):z4 P Any (Op.Complex.product a b c d):=zT.2.2.2.2.2.2.2.2.2.2.2.2.2.2.2.2.2.2.2.2.2.2.1 _ _ _ _
theorem xT {P}(scale)(a)(b)(c)(d):z4 P Any (Op.Complex.corrected scale a b c d):=zT.2.2.2.2.2.2.2.2.2.2.2.2.2.2.2.2.2.2.2.2.2.2.2 _ _ _ _ _
theorem Vd {P:Program}(y1:Nat)(y2:TypeId)(y3:Value)(y4:Value):z4 P Any (Go.Op.eqGuardIn y1 y2 y3 y4):=by
 induction y1 generalizing y2 y3 y4 with
 |zero=> ?_
 |succ n ih=> ?_
 all_goals
  unfold Go.Op.eqGuardIn;repeat' (first|exact trivial|exact fun _=>trivial|with_reducible (first|assumption|exact zi|exact(Yu _ _ _)|exact(Zm _)|exact(zj _)|exact ih _ _ _|apply z4.bind0|apply z4.map0|apply z4.forInArray|apply z4.forInRange|apply z4.forInList|apply z4.mapMArray|apply z4.mapMList|apply z4.foldlMList|apply z4.forInRange' |apply z4.ite|intro _)|split|dsimp only)
theorem QE {P:Program}(_argTypes:Array TypeId)(_type:TypeId)(args:Array Value):z4 P Any (Go.Builtin.close_ _argTypes _type args):=by
 unfold Go.Builtin.close_;obtain⟨l⟩:=args;rcases l with _|⟨a,_|⟨b,_|⟨c,_|⟨d,l⟩⟩⟩⟩
 all_goals first
  |exact trivial
  |(cases a<;>first|exact trivial|skip)
 all_goals(try rename_i o;cases o)
 all_goals try(first|exact trivial|refine z4.bind0 ?_ (fun _=> ?_)|refine z4.ite (fun _=> ?_) (fun _=> ?_))
 all_goals
  repeat' (first|exact trivial|exact fun _=>trivial|with_reducible (first|assumption|exact zi|exact(zy _)|apply z4.bind0|apply z4.map0|apply z4.forInArray|apply z4.forInRange|apply z4.forInList|apply z4.mapMArray|apply z4.mapMList|apply z4.foldlMList|apply z4.forInRange' |apply z4.ite|intro _)|split|dsimp only)
theorem xU {P:Program}(argTypes:Array TypeId)(_type:TypeId)(args:Array Value):z4 P Any (Go.Builtin.unsafeSlice_ argTypes _type args):=by
 unfold Go.Builtin.unsafeSlice_;obtain⟨l⟩:=args;rcases l with _|⟨a,_|⟨b,_|⟨c,_|⟨d,l⟩⟩⟩⟩
 all_goals first
  |exact trivial
  |(cases a<;>first|exact trivial|skip)
 all_goals(try rename_i o;cases o)
 all_goals try(first|exact trivial|refine z4.bind0 ?_ (fun _=> ?_)|refine z4.ite (fun _=> ?_) (fun _=> ?_))
 all_goals
  repeat' (first|exact trivial|exact fun _=>trivial|with_reducible (first|assumption|exact zi|exact(y7 _ _ _)|exact(yL _)|exact(yk _)|exact(zy _)|exact(Zm _)|exact(Za _)|exact(Yt _ _ _)|exact(Xc _)|apply z4.bind0|apply z4.map0|apply z4.forInArray|apply z4.forInRange|apply z4.forInList|apply z4.mapMArray|apply z4.mapMList|apply z4.foldlMList|apply z4.forInRange' |apply z4.ite|intro _)|split|dsimp only)
theorem xJ {P:Program}(argTypes:Array TypeId)(_type:TypeId)(args:Array Value):z4 P Any (Go.Builtin.unsafeString_ argTypes _type args):=by
 unfold Go.Builtin.unsafeString_;obtain⟨l⟩:=args;rcases l with _|⟨a,_|⟨b,_|⟨c,_|⟨d,l⟩⟩⟩⟩
 all_goals first
  |exact trivial
  |(cases a<;>first|exact trivial|skip)
 all_goals(try rename_i o;cases o)
 all_goals try(first|exact trivial|refine z4.bind0 ?_ (fun _=> ?_)|refine z4.ite (fun _=> ?_) (fun _=> ?_))
 all_goals
  repeat' (first|exact trivial|exact fun _=>trivial|with_reducible (first|assumption|exact zi|exact(y7 _ _ _)|exact(yL _)|exact(yk _)|exact(j3 _ _ _)|exact(zy _)|exact(Yt _ _ _)|apply z4.bind0|apply z4.map0|apply z4.forInArray|apply z4.forInRange|apply z4.forInList|apply z4.mapMArray|apply z4.mapMList|apply z4.foldlMList|apply z4.forInRange' |apply z4.ite|intro _)|split|dsimp only)
theorem QC {P:Program}(a0:Bool)(y1:Nat)(y2:TypeId)(y3:Value):z4 P Any (Go.Instr.checkKey a0 y1 y2 y3):=by
 induction y1 generalizing y2 y3 with
 |zero=> ?_
 |succ n ih=> ?_
 all_goals
  unfold Go.Instr.checkKey;repeat' (first|exact trivial|exact fun _=>trivial|with_reducible (first|assumption|exact zi|exact(Yu _ _ _)|exact(zy _)|exact(Zm _)|exact(Za _)|exact(qe _)|exact(zj _)|exact ih _ _|apply z4.bind0|apply z4.map0|apply z4.forInArray|apply z4.forInRange|apply z4.forInList|apply z4.mapMArray|apply z4.mapMList|apply z4.foldlMList|apply z4.forInRange' |apply z4.ite|intro _)|split|dsimp only)
theorem kb {P:Program}(y1:List FieldStep)(y2:TypeId)(y3:Option Value):z4 P Any (Go.followBlind y1 y2 y3):=by
 induction y1 generalizing y2 y3 with
 |nil=> ?_
 |cons x l ih=> ?_
 all_goals
  unfold Go.followBlind;repeat' (first|exact trivial|exact fun _=>trivial|with_reducible (first|assumption|exact zi|exact(Yu _ _ _)|exact(zj _)|exact ih _ _|apply z4.bind0|apply z4.map0|apply z4.forInArray|apply z4.forInRange|apply z4.forInList|apply z4.mapMArray|apply z4.mapMList|apply z4.foldlMList|apply z4.forInRange' |apply z4.ite|intro _)|split|dsimp only)
theorem xm {P:Program}(argTypes:Array TypeId)(_type:TypeId)(args:Array Value):z4 P Any (Go.Builtin.ssaWrapNilChk_ argTypes _type args):=by
 unfold Go.Builtin.ssaWrapNilChk_;obtain⟨l⟩:=args;rcases l with _|⟨a,_|⟨b,_|⟨c,_|⟨d,l⟩⟩⟩⟩
 ·exact trivial
 ·exact trivial
 ·exact trivial
 ·cases b with
  |string s=>
   cases c with
   |string m=>
    cases a with
    |pointer o=>
     cases o with
     |some a=>exact trivial
     |none=>
      refine z4.bind0 (Zh _) (fun _=> ?_);repeat' (first|exact trivial|exact fun _=>trivial|with_reducible (first|assumption|exact zi|exact(kN _ _ _ _)|exact(zy _)|exact(Za _)|exact(zj _)|apply z4.bind0|apply z4.map0|apply z4.forInArray|apply z4.forInRange|apply z4.forInList|apply z4.mapMArray|apply z4.mapMList|apply z4.foldlMList|apply z4.forInRange' |apply z4.ite|intro _)|split|dsimp only)
    |_=>exact trivial
   |_=>exact trivial
  |_=>exact trivial
 ·exact trivial
theorem xE {P:Program}:(∀a f,z4 P Any (fieldPlace a f))∧
  (∀k a b,z4 P Any (Op.addrSub k a b))∧
  (∀op a b,z4 P Any (Op.addrCmp op a b))∧
  (∀a3 x a2,z4 P Any (Instr.index a3 x a2))∧
  (∀x y a4,z4 P Any (Instr.sliceBound x y a4))∧
  (∀a b c d,z4 P Any (Op.Complex.quotient a b c d))∧
  (∀xt x a0 a1,z4 P Any (receiverAt xt x a0 a1)):=by
 refine⟨?_,?_,?_,?_,?_,?_,?_⟩<;>intros<;>(first|unfold Go.fieldPlace|unfold Go.Op.addrSub|unfold Go.Op.addrCmp|unfold Go.Instr.index|unfold Go.Instr.sliceBound|unfold Go.Op.Complex.quotient|unfold Go.receiverAt)
 all_goals
  repeat' (first|exact trivial|exact fun _=>trivial|with_reducible (first|assumption|exact zi|exact(UC _ _ _)|exact(Zm _)|exact(Vc _ _)|exact(qg _)|exact(Xw _ _ _ _)|exact(Yu _ _ _)|exact(zj _)|exact(zS _ _ _ _)|exact(mild_Op_Complex_cmp _ _ _ _)|exact(xT _ _ _ _ _)|exact(xg _ _)|exact(xd _ _)|exact(xf _ _)|exact(xe _ _)|exact(xm _ _ _)|exact(xF _ _)|exact(YR _)|exact(qf _ _)|apply z4.bind0|apply z4.map0|apply z4.forInArray|apply z4.forInRange|apply z4.forInList|apply z4.mapMArray|apply z4.mapMList|apply z4.foldlMList|apply z4.forInRange' |apply z4.ite|intro _)|split|dsimp only)
theorem qs {P}(a)(f):z4 P Any (fieldPlace a f):=xE.1 _ _
theorem Kc {P}(k)(a)(b):z4 P Any (Op.addrSub k a b):=xE.2.1 _ _ _
theorem Ke {P}(op)(a)(b):z4 P Any (Op.addrCmp op a b):=xE.2.2.1 _ _ _
theorem Yv {P}(xType)(x)(index):z4 P Any (Instr.index xType x index):=xE.2.2.2.1 _ _ _
theorem qz {P}(x)(y)(code):z4 P Any (Instr.sliceBound x y code):=xE.2.2.2.2.1 _ _ _
theorem Xj {P}(a)(b)(c)(d):z4 P Any (Op.Complex.quotient a b c d):=xE.2.2.2.2.2.1 _ _ _ _
theorem qr {P}(xt)(x)(pointerReceiver)(wrapper):z4 P Any (receiverAt xt x pointerReceiver wrapper):=xE.2.2.2.2.2.2 _ _ _ _
theorem Kb {P:Program}(y1:Nat)(y2:TypeId)(y3:Value)(y4:Value):z4 P Any (Go.Op.equalIn y1 y2 y3 y4):=by
 induction y1 generalizing y2 y3 y4 with
 |zero=> ?_
 |succ n ih=> ?_
 all_goals
  unfold Go.Op.equalIn;repeat' (first|exact trivial|exact fun _=>trivial|with_reducible (first|assumption|exact zi|exact(y6 _)|exact(kQ _)|exact(Yu _ _ _)|exact(zy _)|exact(QJ _ _)|exact(VW _ _)|exact(Zm _)|exact(Za _)|exact(qe _)|exact(zj _)|exact ih _ _ _|apply z4.bind0|apply z4.map0|apply z4.forInArray|apply z4.forInRange|apply z4.forInList|apply z4.mapMArray|apply z4.mapMList|apply z4.foldlMList|apply z4.forInRange' |apply z4.ite|intro _)|split|dsimp only)
theorem jK {P:Program}(y1:Nat)(y2:TypeId)(y3:Value)(y4:String):z4 P Any (Go.nilAhead y1 y2 y3 y4):=by
 induction y1 generalizing y2 y3 y4 with
 |zero=> ?_
 |succ n ih=> ?_
 all_goals
  unfold Go.nilAhead;repeat' (first|exact trivial|exact fun _=>trivial|with_reducible (first|assumption|exact zi|exact(kb _ _ _)|exact(Za _)|exact(zj _)|exact ih _ _ _|apply z4.bind0|apply z4.map0|apply z4.forInArray|apply z4.forInRange|apply z4.forInList|apply z4.mapMArray|apply z4.mapMList|apply z4.foldlMList|apply z4.forInRange' |apply z4.ite|intro _)|split|dsimp only)
theorem Xv {P:Program}:(∀t x y,z4 P Any (Op.equal t x y))∧
  (∀a1 len cap a6 a5 a7,z4 P Any (Instr.sliceBounds a1 len cap a6 a5 a7))∧
  (∀op k xr xi yr yi,z4 P Any (Op.complexOp op k xr xi yr yi))∧
  (∀s a4 a2,z4 P Any (Instr.fieldAt s a4 a2))∧
  (∀t x a0,z4 P Any (Instr.indexAt t x a0))∧
  (∀a3 a0,z4 P Any (Instr.extract a3 a0)):=by
 refine⟨?_,?_,?_,?_,?_,?_⟩<;>intros<;>(first|unfold Go.Op.equal|unfold Go.Instr.sliceBounds|unfold Go.Op.complexOp|unfold Go.Instr.fieldAt|unfold Go.Instr.indexAt|unfold Go.Instr.extract)
 all_goals
  repeat' (first|exact trivial|exact fun _=>trivial|with_reducible (first|assumption|exact zi|exact(Kb _ _ _ _)|exact(qz _ _ _)|exact(zS _ _ _ _)|exact(mild_Op_Complex_cmp _ _ _ _)|exact(qT _ _ _)|exact(Xz _ _ _ _)|exact(Xj _ _ _ _)|exact(XC _ _ _)|exact(yy _)|exact(qs _ _)|exact(zj _)|exact(Yv _ _ _)|exact(qg _)|exact(Xw _ _ _ _)|exact(Zm _)|apply z4.bind0|apply z4.map0|apply z4.forInArray|apply z4.forInRange|apply z4.forInList|apply z4.mapMArray|apply z4.mapMList|apply z4.foldlMList|apply z4.forInRange' |apply z4.ite|intro _)|split|dsimp only)
theorem QN {P}(t)(x)(y):z4 P Any (Op.equal t x y):=Xv.1 _ _ _
theorem Yd {P}(isSlice)(len)(cap)(low)(high)(max):z4 P Any (Instr.sliceBounds isSlice len cap low high max):=Xv.2.1 _ _ _ _ _ _
theorem Ve {P}(op)(k)(xr)(xi)(yr)(yi):z4 P Any (Op.complexOp op k xr xi yr yi):=Xv.2.2.1 _ _ _ _ _ _
theorem vk {P}(s)(addr)(field):z4 P Any (Instr.fieldAt s addr field):=Xv.2.2.2.1 _ _ _
theorem vh {P}(t)(x)(index):z4 P Any (Instr.indexAt t x index):=Xv.2.2.2.2.1 _ _ _
theorem vm {P}(tuple)(index):z4 P Any (Instr.extract tuple index):=Xv.2.2.2.2.2 _ _
theorem kP {P:Program}(y1:List FieldStep)(y2:TypeId)(y3:Place):z4 P Any (Go.follow y1 y2 y3):=by
 induction y1 generalizing y2 y3 with
 |nil=> ?_
 |cons x l ih=> ?_
 all_goals
  unfold Go.follow;repeat' (first|exact trivial|exact fun _=>trivial|with_reducible (first|assumption|exact zi|exact(xF _ _)|exact(YR _)|exact(qs _ _)|exact(Yu _ _ _)|exact(zj _)|exact ih _ _|apply z4.bind0|apply z4.map0|apply z4.forInArray|apply z4.forInRange|apply z4.forInList|apply z4.mapMArray|apply z4.mapMList|apply z4.foldlMList|apply z4.forInRange' |apply z4.ite|intro _)|split|dsimp only)
theorem UE {P:Program}:(∀a1 x a3 a2 a4,z4 P Any (Instr.slice a1 x a3 a2 a4))∧
  (∀t v path a0,z4 P Any (receiverVia t v path a0)):=by
 refine⟨?_,?_⟩<;>intros<;>(first|unfold Go.Instr.slice|unfold Go.receiverVia)
 all_goals
  repeat' (first|exact trivial|exact fun _=>trivial|with_reducible (first|assumption|exact zi|exact(Yd _ _ _ _ _ _)|exact(YR _)|exact(Zm _)|exact(zj _)|exact(kP _ _ _)|exact(qr _ _ _ _)|apply z4.bind0|apply z4.map0|apply z4.forInArray|apply z4.forInRange|apply z4.forInList|apply z4.mapMArray|apply z4.mapMList|apply z4.foldlMList|apply z4.forInRange' |apply z4.ite|intro _)|split|dsimp only)
theorem kd {P}(xType)(x)(low)(high)(max):z4 P Any (Instr.slice xType x low high max):=UE.1 _ _ _ _ _
theorem V_ {P}(t)(v)(path)(pointerReceiver):z4 P Any (receiverVia t v path pointerReceiver):=UE.2 _ _ _ _
theorem qA {P:Program}(a0:TypeId)(k:Value)(y1:List MapEntry)(y2:Nat):z4 P Any (Go.Instr.findAsking a0 k y1 y2):=by
 induction y1 generalizing y2 with
 |nil=> ?_
 |cons x l ih=> ?_
 all_goals
  unfold Go.Instr.findAsking;repeat' (first|exact trivial|exact fun _=>trivial|with_reducible (first|assumption|exact zi|exact(QN _ _ _)|exact ih _|apply z4.bind0|apply z4.map0|apply z4.forInArray|apply z4.forInRange|apply z4.forInList|apply z4.mapMArray|apply z4.mapMList|apply z4.foldlMList|apply z4.forInRange' |apply z4.ite|intro _)|split|dsimp only)
theorem kN {P:Program}(y1:Nat)(y2:TypeId)(y3:Value)(y4:String):z4 P Any (Go.method y1 y2 y3 y4):=by
 induction y1 generalizing y2 y3 y4 with
 |zero=> ?_
 |succ n ih=> ?_
 all_goals
  unfold Go.method;repeat' (first|exact trivial|exact fun _=>trivial|with_reducible (first|assumption|exact zi|exact(xF _ _)|exact(kP _ _ _)|exact(qr _ _ _ _)|exact(zy _)|exact(Za _)|exact ih _ _ _|apply z4.bind0|apply z4.map0|apply z4.forInArray|apply z4.forInRange|apply z4.forInList|apply z4.mapMArray|apply z4.mapMList|apply z4.foldlMList|apply z4.forInRange' |apply z4.ite|intro _)|split|dsimp only)
theorem UD {P:Program}:(∀a0 k es,z4 P Any (Instr.findKey a0 k es))∧
  (∀t x a2 a1 a3,z4 P Any (Instr.sliceAt t x a2 a1 a3)):=by
 refine⟨?_,?_⟩<;>intros<;>(first|unfold Go.Instr.findKey|unfold Go.Instr.sliceAt)
 all_goals
  repeat' (first|exact trivial|exact fun _=>trivial|with_reducible (first|assumption|exact zi|exact(qA _ _ _ _)|exact(zj _)|exact(kd _ _ _ _ _)|exact(Yd _ _ _ _ _ _)|exact(yy _)|exact(Zm _)|apply z4.bind0|apply z4.map0|apply z4.forInArray|apply z4.forInRange|apply z4.forInList|apply z4.mapMArray|apply z4.mapMList|apply z4.foldlMList|apply z4.forInRange' |apply z4.ite|intro _)|split|dsimp only)
theorem vi {P}(keyType)(k)(es):z4 P Any (Instr.findKey keyType k es):=UD.1 _ _ _
theorem vf {P}(t)(x)(low)(high)(max):z4 P Any (Instr.sliceAt t x low high max):=UD.2 _ _ _ _ _
theorem Va {P:Program}:(∀a3 x a2 a1,z4 P Any (Instr.lookup a3 x a2 a1))∧
  (∀a0 map key value,z4 P Any (Instr.mapUpdate a0 map key value))∧
  (∀argTypes _type args,z4 P Any (Builtin.delete_ argTypes _type args))∧
  (∀a0 map key,z4 P Any (Instr.mapEntry a0 map key)):=by
 refine⟨?_,?_,?_,?_⟩<;>intros<;>(first|unfold Go.Instr.lookup|unfold Go.Instr.mapUpdate|unfold Go.Builtin.delete_|unfold Go.Instr.mapEntry)
 all_goals
  repeat' (first|exact trivial|exact fun _=>trivial|with_reducible (first|assumption|exact zi|exact(QC _ _ _ _)|exact(vi _ _ _)|exact(Yv _ _ _)|exact(zj _)|exact(yg _)|exact(XB _ _)|exact(zy _)|apply z4.bind0|apply z4.map0|apply z4.forInArray|apply z4.forInRange|apply z4.forInList|apply z4.mapMArray|apply z4.mapMList|apply z4.foldlMList|apply z4.forInRange' |apply z4.ite|intro _)|split|dsimp only)
theorem Vf {P}(xType)(x)(index)(commaOk):z4 P Any (Instr.lookup xType x index commaOk):=Va.1 _ _ _ _
theorem YS {P}(mapType)(map)(key)(value):z4 P Any (Instr.mapUpdate mapType map key value):=Va.2.1 _ _ _ _
theorem qW {P}(argTypes)(_type)(args):z4 P Any (Builtin.delete_ argTypes _type args):=Va.2.2.1 _ _ _
theorem Qz {P}(mapType)(map)(key):z4 P Any (Instr.mapEntry mapType map key):=Va.2.2.2 _ _ _
