import GoSem.Step
import Derived.Laws.Sem
set_option linter.all false
set_option maxHeartbeats 20000000
set_option maxRecDepth 1000000
namespace Go.Proofs.YtolgebdmffcemaaGreatDoor
open Go
def Ve:Halt→Prop
 | .panic _| .fatal _| .throw _| .unsupported _| .stuck _=>True
 |_=>False
def Qf:Halt→Prop
 | .stuck _=>True
 | .unsupported (.initOrder _)=>False
 | .unsupported _=>True
 |_=>False
def OV (m:Mark):Prop:=m≠ .disable∧m≠ .enable
def z8 (P:Program){α:Type}(F:α→Prop):Sem α→Prop
 | .pure a=>F a
 | .load _ _ k=>∀v,z8 P F (k v)
 | .store _ _ _ k=>z8 P F k
 | .new _ k=>∀r,z8 P F (k r)
 | .shape _ k=>∀s,z8 P F (k s)
 | .freeze _ _ k=>z8 P F k
 | .frozen _ k=>∀b,z8 P F (k b)
 | .getObj _ k=>∀o,z8 P F (k o)
 | .setObj _ _ k=>z8 P F k
 | .choose _ k=>∀n,z8 P F (k n)
 | .sys _ k=>(∃h,k .wouldBlock= .halt h∧Qf h)∧∀r,z8 P F (k r)
 | .program k=>z8 P F (k P)
 | .mark m k=>OV m∧z8 P F k
 | .halt h=>Ve h
def Any {α:Type}(_:α):Prop:=True
section
variable {P:Program}{α β:Type}
theorem z8.mono {F G:α→Prop}(h:∀a,F a→G a):∀{s:Sem α},z8 P F s→z8 P G s:=by
 intro s;induction s with
 |pure a=>exact h a
 |load m a k ih=>exact fun x v=>ih v (x v)
 |store m a v k ih=>exact ih
 |new o k ih=>exact fun x v=>ih v (x v)
 |shape r k ih=>exact fun x v=>ih v (x v)
 |freeze a n k ih=>exact ih
 |frozen a k ih=>exact fun x v=>ih v (x v)
 |getObj r k ih=>exact fun x v=>ih v (x v)
 |setObj r o k ih=>exact ih
 |choose q k ih=>exact fun x v=>ih v (x v)
 |sys c k ih=>exact fun x=>⟨x.1,fun r=>ih r (x.2 r)⟩
 |program k ih=>exact ih P
 |mark m k ih=>exact fun x=>⟨x.1,ih x.2⟩
 |halt x=>exact id
theorem z8.bind' {F:α→Prop}{G:β→Prop}{f:α→Sem β}(hf:∀a,F a→z8 P G (f a)):∀{s:Sem α},z8 P F s→z8 P G (s.bind f):=by
 intro s;induction s with
 |pure a=>exact hf a
 |load m a k ih=>exact fun x v=>ih v (x v)
 |store m a v k ih=>exact ih
 |new o k ih=>exact fun x v=>ih v (x v)
 |shape r k ih=>exact fun x v=>ih v (x v)
 |freeze a n k ih=>exact ih
 |frozen a k ih=>exact fun x v=>ih v (x v)
 |getObj r k ih=>exact fun x v=>ih v (x v)
 |setObj r o k ih=>exact ih
 |choose q k ih=>exact fun x v=>ih v (x v)
 |sys c k ih=>exact fun x=>⟨let⟨h,h1,h2⟩:=x.1;⟨h,by show(k .wouldBlock).bind f=_;rw[h1];rfl,h2⟩,fun r=>ih r (x.2 r)⟩
 |program k ih=>exact ih P
 |mark m k ih=>exact fun x=>⟨x.1,ih x.2⟩
 |halt x=>exact id
theorem z8.bind {F:α→Prop}{G:β→Prop}{f:α→Sem β}{s:Sem α}(hs:z8 P F s)(hf:∀a,F a→z8 P G (f a)):z8 P G (s>>=f):=z8.bind' hf hs
theorem z8.bind0 {G:β→Prop}{f:α→Sem β}{s:Sem α}(hs:z8 P Any s)(hf:∀a,z8 P G (f a)):z8 P G (s>>=f):=z8.bind' (fun a _=>hf a) hs
theorem z8.map0 {f:α→β}{s:Sem α}(hs:z8 P Any s):z8 P Any (f<$>s):=by
 have h:(f<$>s)=s>>=fun a=>Pure.pure (f a):=by simp
 rw[h];exact z8.bind0 hs fun _=>by exact trivial
theorem z8.forInList {γ:Type}(f:α→γ→Sem (ForInStep γ))(h:∀a s,z8 P Any (f a s)):∀(l:List α) (a0:γ),z8 P Any (forIn l a0 f)
 |[],a0=>by simp only[List.forIn_nil];trivial
 |a::l,a0=>by
  simp only[List.forIn_cons];refine z8.bind0 (h a a0) (fun r=> ?_)
  cases r with
  |done b=>trivial
  |yield b=>exact z8.forInList f h l b
theorem z8.forInArray {γ:Type}(f:α→γ→Sem (ForInStep γ))(h:∀a s,z8 P Any (f a s))(l:Array α)(a0:γ):z8 P Any (forIn l a0 f):=by
 rw[←Array.forIn_toList];exact z8.forInList f h l.toList a0
theorem z8.forInRange {γ:Type}(f:Nat→γ→Sem (ForInStep γ))(h:∀a s,z8 P Any (f a s))(r:Std.Legacy.Range)(a0:γ):z8 P Any (forIn r a0 f):=by
 rw[Std.Legacy.Range.forIn_eq_forIn_range'];exact z8.forInList f h _ a0
theorem z8.mapMLoop (f:α→Sem β)(h:∀a,z8 P Any (f a)):∀(l:List α) (a0:List β),z8 P Any (List.mapM.loop f l a0)
 |[],a0=>trivial
 |a::l,a0=>by
  unfold List.mapM.loop;exact z8.bind0 (h a) fun b=>z8.mapMLoop f h l (b::a0)
theorem z8.mapMList (f:α→Sem β)(h:∀a,z8 P Any (f a))(l:List α):z8 P Any (l.mapM f):=z8.mapMLoop f h l []
theorem z8.mapMArray (f:α→Sem β)(h:∀a,z8 P Any (f a))(as:Array α):z8 P Any (as.mapM f):=by
 rw[Array.mapM_eq_mapM_toList];exact z8.map0 (z8.mapMList f h as.toList)
theorem z8.ite {c:Prop} [Decidable c] {F:α→Prop}{x y:Sem α}(h1:c→z8 P F x)(h2:¬c→z8 P F y):z8 P F (if c then x else y):=by
 by_cases h:c
 ·rw[if_pos h];exact h1 h
 ·rw[if_neg h];exact h2 h
theorem z8.foldlMList {γ:Type}(f:γ→α→Sem γ)(h:∀a s,z8 P Any (f s a)):∀(l:List α) (a0:γ),z8 P Any (l.foldlM f a0)
 |[],_=>trivial
 |a::l,a0=>by
  rw[List.foldlM_cons];exact z8.bind0 (h a a0) fun b=>z8.foldlMList f h l b
theorem z8.forInList' {γ:Type}:∀(l:List α) (f:(a:α)→a∈l→γ→Sem (ForInStep γ)) (_:∀a h s,z8 P Any (f a h s)) (a0:γ),z8 P Any (forIn' l a0 f)
 |[],f,h,a0=>by simp only[List.forIn'_nil];trivial
 |a::l,f,h,a0=>by
  simp only[List.forIn'_cons];refine z8.bind0 (h a _ a0) (fun r=> ?_)
  cases r with
  |done b=>trivial
  |yield b=>exact z8.forInList' l _ (fun a h' s=>h a _ s) b
theorem z8.forInRange' {γ:Type}(r:Std.Legacy.Range)(f:(a:Nat)→a∈r→γ→Sem (ForInStep γ))(h:∀a h s,z8 P Any (f a h s))(a0:γ):z8 P Any (forIn' r a0 f):=by
 rw[Std.Legacy.Range.forIn'_eq_forIn'_range'];exact z8.forInList' _ _ (fun a h' s=>h a _ s) a0
theorem Zy {F:α→Prop}(s:String):z8 P F (stuck s:Sem α):=trivial
theorem zy {F:α→Prop}(u:Unsupported):z8 P F (unsupported u:Sem α):=trivial
theorem jW:z8 P (·=P) (program:Sem Program):=rfl
theorem yn (a:Addr)(m:Mode):z8 P Any (load a m):=fun _=>trivial
theorem ZN (a:Addr)(v:Value)(m:Mode):z8 P Any (store a v m):=trivial
theorem yb (o:Obj):z8 P Any (newObj o):=fun _=>trivial
theorem yd (a:Addr):z8 P Any (frozen a):=fun _=>trivial
theorem Z8 (q:Question):z8 P Any (choose q):=fun _=>trivial
theorem oT (m:Mark)(h:OV m):z8 P Any (mark m):=⟨h,trivial⟩
theorem zn:z8 P Any (mark .noRoom):=⟨⟨by simp,by simp⟩,trivial⟩
theorem zV:z8 P Any (program:Sem Program):=trivial
end
theorem zz {P:Program}:(∀a6,z8 P Any (askRoom a6))∧
  (∀r,z8 P Any (viewAt r))∧
  (∀r,z8 P Any (numberAt r))∧
  (∀r,z8 P Any (cellsIn r))∧
  (∀a a8,z8 P Any (asNumber a a8))∧
  (∀a,z8 P Any (markStringish a))∧
  (∀a,z8 P Any (stringish a))∧
  (∀t,z8 P Any (typeInfo t))∧
  (∀t,z8 P Any (underlying t))∧
  (∀name,z8 P Any (cutType name))∧
  (∀name,z8 P Any (globalAddr name))∧
  (∀a7 a1,z8 P Any (newRow a7 a1))∧
  (∀{α:Type} (b0:String),z8 P Any (Go.panicString b0:Sem α))∧
  (∀y1,z8 P Any (asIntOf y1))∧
  (∀y1,z8 P Any (asBool y1))∧
  (∀y1,z8 P Any (asString y1))∧
  (∀y1,z8 P Any (asAgg y1))∧
  (∀a u n,z8 P Any (variablesAt a u n))∧
  (∀k a n,z8 P Any (intVariablesAt k a n))∧
  (∀op k x y,z8 P Any (Op.floatArith op k x y))∧
  (∀op k x y,z8 P Any (Op.floatCmp op k x y))∧
  (∀op k x y,z8 P Any (Op.intArith op k x y))∧
  (∀op k x y,z8 P Any (Op.intBits op k x y))∧
  (∀op x y,z8 P Any (Op.intCmp op x y))∧
  (∀op x y,z8 P Any (Op.stringOp op x y))∧
  (∀a9 a3 a4,z8 P Any (Conv.floatToFloat a9 a3 a4))∧
  (∀a9 a3 a4,z8 P Any (Conv.floatToInt a9 a3 a4))∧
  (∀a4 n,z8 P Any (Conv.intToFloat a4 n))∧
  (∀a4 n,z8 P Any (Conv.intToInt a4 n))∧
  (∀n,z8 P Any (Conv.intToString n))∧
  (∀a a1,z8 P Any (Builtin.holdsCells a a1))∧
  (∀y1,z8 P Any (Builtin.lenOf y1))∧
  (∀y1,z8 P Any (Instr.sureAddr y1))∧
  (∀a5,z8 P Any (Instr.entry a5))∧
  (∀fn first a0,z8 P Any (Instr.makeFunc fn first a0))∧
  (∀b1 new,z8 P Any (Instr.keyThatStays b1 new))∧
  (∀a5 a2 _type,z8 P Any (Instr.next a5 a2 _type))∧
  (∀l,z8 P Any (Instr.getLoop l))∧
  (∀block,z8 P Any (Instr.takeDeferred block))∧
  (∀g,z8 P Any (Instr.waits g))∧
  (∀g,z8 P Any (Instr.ready g)):=by
 refine⟨?_,?_,?_,?_,?_,?_,?_,?_,?_,?_,?_,?_,?_,?_,?_,?_,?_,?_,?_,?_,?_,?_,?_,?_,?_,?_,?_,?_,?_,?_,?_,?_,?_,?_,?_,?_,?_,?_,?_,?_,?_⟩<;>intros<;>(first|unfold Go.askRoom|unfold Go.viewAt|unfold Go.numberAt|unfold Go.cellsIn|unfold Go.asNumber|unfold Go.markStringish|unfold Go.stringish|unfold Go.typeInfo|unfold Go.underlying|unfold Go.cutType|unfold Go.globalAddr|unfold Go.newRow|unfold Go.panicString|unfold Go.asIntOf|unfold Go.asBool|unfold Go.asString|unfold Go.asAgg|unfold Go.variablesAt|unfold Go.intVariablesAt|unfold Go.Op.floatArith|unfold Go.Op.floatCmp|unfold Go.Op.intArith|unfold Go.Op.intBits|unfold Go.Op.intCmp|unfold Go.Op.stringOp|unfold Go.Conv.floatToFloat|unfold Go.Conv.floatToInt|unfold Go.Conv.intToFloat|unfold Go.Conv.intToInt|unfold Go.Conv.intToString|unfold Go.Builtin.holdsCells|unfold Go.Builtin.lenOf|unfold Go.Instr.sureAddr|unfold Go.Instr.entry|unfold Go.Instr.makeFunc|unfold Go.Instr.keyThatStays|unfold Go.Instr.next|unfold Go.Instr.getLoop|unfold Go.Instr.takeDeferred|unfold Go.Instr.waits|unfold Go.Instr.ready)
 all_goals
  repeat' (first|exact trivial|exact fun _=>trivial|with_reducible (first|assumption|exact zn|apply z8.bind0|apply z8.map0|apply z8.forInArray|apply z8.forInRange|apply z8.forInList|apply z8.mapMArray|apply z8.mapMList|apply z8.foldlMList|apply z8.forInRange' |apply z8.ite|intro _)|split|dsimp only)
theorem vJ {P}(bytes):z8 P Any (askRoom bytes):=zz.1 _
theorem xU {P}(r):z8 P Any (viewAt r):=zz.2.1 _
theorem Qy {P}(r):z8 P Any (numberAt r):=zz.2.2.1 _
theorem j_ {P}(r):z8 P Any (cellsIn r):=zz.2.2.2.1 _
theorem QA {P}(a)(lost):z8 P Any (asNumber a lost):=zz.2.2.2.2.1 _ _
theorem yK {P}(a):z8 P Any (markStringish a):=zz.2.2.2.2.2.1 _
theorem kZ {P}(a):z8 P Any (stringish a):=zz.2.2.2.2.2.2.1 _
theorem Z4 {P}(t):z8 P Any (typeInfo t):=zz.2.2.2.2.2.2.2.1 _
theorem zo {P}(t):z8 P Any (underlying t):=zz.2.2.2.2.2.2.2.2.1 _
theorem ki {P}(name):z8 P Any (globalAddr name):=zz.2.2.2.2.2.2.2.2.2.2.1 _
theorem Yv {P}(elem)(cells):z8 P Any (newRow elem cells):=zz.2.2.2.2.2.2.2.2.2.2.2.1 _ _
theorem XZ {P}(y1):z8 P Any (asIntOf y1):=zz.2.2.2.2.2.2.2.2.2.2.2.2.2.1 _
theorem VS {P}(y1):z8 P Any (asBool y1):=zz.2.2.2.2.2.2.2.2.2.2.2.2.2.2.1 _
theorem Yn {P}(y1):z8 P Any (asString y1):=zz.2.2.2.2.2.2.2.2.2.2.2.2.2.2.2.1 _
theorem K1 {P}(y1):z8 P Any (asAgg y1):=zz.2.2.2.2.2.2.2.2.2.2.2.2.2.2.2.2.1 _
theorem Yd {P}(a)(u)(n):z8 P Any (variablesAt a u n):=zz.2.2.2.2.2.2.2.2.2.2.2.2.2.2.2.2.2.1 _ _ _
theorem Qm {P}(k)(a)(n):z8 P Any (intVariablesAt k a n):=zz.2.2.2.2.2.2.2.2.2.2.2.2.2.2.2.2.2.2.1 _ _ _
theorem xx {P}(op)(k)(x)(y):z8 P Any (Op.floatArith op k x y):=zz.2.2.2.2.2.2.2.2.2.2.2.2.2.2.2.2.2.2.2.1 _ _ _ _
theorem Xn {P}(op)(k)(x)(y):z8 P Any (Op.floatCmp op k x y):=zz.2.2.2.2.2.2.2.2.2.2.2.2.2.2.2.2.2.2.2.2.1 _ _ _ _
theorem K3 {P}(op)(x)(y):z8 P Any (Op.intCmp op x y):=zz.2.2.2.2.2.2.2.2.2.2.2.2.2.2.2.2.2.2.2.2.2.2.2.1 _ _ _
theorem Xm {P}(op)(x)(y):z8 P Any (Op.stringOp op x y):=zz.2.2.2.2.2.2.2.2.2.2.2.2.2.2.2.2.2.2.2.2.2.2.2.2.1 _ _ _
theorem Y0 {P}(src)(bits)(dst):z8 P Any (Conv.floatToFloat src bits dst):=zz.2.2.2.2.2.2.2.2.2.2.2.2.2.2.2.2.2.2.2.2.2.2.2.2.2.1 _ _ _
theorem qL {P}(src)(bits)(dst):z8 P Any (Conv.floatToInt src bits dst):=zz.2.2.2.2.2.2.2.2.2.2.2.2.2.2.2.2.2.2.2.2.2.2.2.2.2.2.1 _ _ _
theorem Xx {P}(a)(cells):z8 P Any (Builtin.holdsCells a cells):=zz.2.2.2.2.2.2.2.2.2.2.2.2.2.2.2.2.2.2.2.2.2.2.2.2.2.2.2.2.2.2.1 _ _
theorem Q_ {P}(y1):z8 P Any (Builtin.lenOf y1):=zz.2.2.2.2.2.2.2.2.2.2.2.2.2.2.2.2.2.2.2.2.2.2.2.2.2.2.2.2.2.2.2.1 _
theorem yq {P}(y1):z8 P Any (Instr.sureAddr y1):=zz.2.2.2.2.2.2.2.2.2.2.2.2.2.2.2.2.2.2.2.2.2.2.2.2.2.2.2.2.2.2.2.2.1 _
theorem Vp {P}(iter):z8 P Any (Instr.entry iter):=zz.2.2.2.2.2.2.2.2.2.2.2.2.2.2.2.2.2.2.2.2.2.2.2.2.2.2.2.2.2.2.2.2.2.1 _
theorem Qp {P}(fn)(first)(captured):z8 P Any (Instr.makeFunc fn first captured):=zz.2.2.2.2.2.2.2.2.2.2.2.2.2.2.2.2.2.2.2.2.2.2.2.2.2.2.2.2.2.2.2.2.2.2.1 _ _ _
theorem Xq {P}(old)(new):z8 P Any (Instr.keyThatStays old new):=zz.2.2.2.2.2.2.2.2.2.2.2.2.2.2.2.2.2.2.2.2.2.2.2.2.2.2.2.2.2.2.2.2.2.2.2.1 _ _
theorem kp {P}(iter)(isString)(_type):z8 P Any (Instr.next iter isString _type):=zz.2.2.2.2.2.2.2.2.2.2.2.2.2.2.2.2.2.2.2.2.2.2.2.2.2.2.2.2.2.2.2.2.2.2.2.2.1 _ _ _
theorem yM {P}(l):z8 P Any (Instr.getLoop l):=zz.2.2.2.2.2.2.2.2.2.2.2.2.2.2.2.2.2.2.2.2.2.2.2.2.2.2.2.2.2.2.2.2.2.2.2.2.2.1 _
theorem yS {P}(block):z8 P Any (Instr.takeDeferred block):=zz.2.2.2.2.2.2.2.2.2.2.2.2.2.2.2.2.2.2.2.2.2.2.2.2.2.2.2.2.2.2.2.2.2.2.2.2.2.2.1 _
theorem Vl {P}(g):z8 P Any (Instr.waits g):=zz.2.2.2.2.2.2.2.2.2.2.2.2.2.2.2.2.2.2.2.2.2.2.2.2.2.2.2.2.2.2.2.2.2.2.2.2.2.2.2.1 _
theorem Vn {P}(g):z8 P Any (Instr.ready g):=zz.2.2.2.2.2.2.2.2.2.2.2.2.2.2.2.2.2.2.2.2.2.2.2.2.2.2.2.2.2.2.2.2.2.2.2.2.2.2.2.2 _
theorem QQ {P:Program}(a:Addr)(i:Nat)(y1:Nat)(y2:Array Value):z8 P Any (Go.loadCellsFrom a i y1 y2):=by
 induction y1 generalizing i y2 with
 |zero=> ?_
 |succ n ih=> ?_
 all_goals
  unfold Go.loadCellsFrom;repeat' (first|exact trivial|exact fun _=>trivial|with_reducible (first|assumption|exact zn|exact ih _ _|apply z8.bind0|apply z8.map0|apply z8.forInArray|apply z8.forInRange|apply z8.forInList|apply z8.mapMArray|apply z8.mapMList|apply z8.foldlMList|apply z8.forInRange' |apply z8.ite|intro _)|split|dsimp only)
theorem YM {P:Program}(a:Addr)(vs:List Value)(i:Nat):z8 P Any (Go.storeCells a vs i):=by
 induction vs generalizing i with
 |nil=> ?_
 |cons x l ih=> ?_
 all_goals
  unfold Go.storeCells;repeat' (first|exact trivial|exact fun _=>trivial|with_reducible (first|assumption|exact zn|exact ih _|apply z8.bind0|apply z8.map0|apply z8.forInArray|apply z8.forInRange|apply z8.forInList|apply z8.mapMArray|apply z8.mapMList|apply z8.foldlMList|apply z8.forInRange' |apply z8.ite|intro _)|split|dsimp only)
theorem K0 {P:Program}(a:Addr)(a0:ByteArray)(y1:Nat):z8 P Any (Go.loadBytes a a0 y1):=by
 induction y1 generalizing a a0 with
 |zero=> ?_
 |succ n ih=> ?_
 all_goals
  unfold Go.loadBytes;repeat' (first|exact trivial|exact fun _=>trivial|with_reducible (first|assumption|exact zn|exact ih _ _|apply z8.bind0|apply z8.map0|apply z8.forInArray|apply z8.forInRange|apply z8.forInList|apply z8.mapMArray|apply z8.mapMList|apply z8.foldlMList|apply z8.forInRange' |apply z8.ite|intro _)|split|dsimp only)
theorem qv {P:Program}(_argTypes:Array TypeId)(_type:TypeId)(args:Array Value):z8 P Any (Go.Builtin.complex_ _argTypes _type args):=by
 unfold Go.Builtin.complex_;obtain⟨l⟩:=args;rcases l with _|⟨a,_|⟨b,_|⟨c,l⟩⟩⟩
 ·exact trivial
 ·exact trivial
 ·cases a<;>first|exact trivial|(cases b<;>first|exact trivial|exact z8.ite (fun _=>trivial) (fun _=>trivial))
 ·exact trivial
theorem v7 {P:Program}(_argTypes:Array TypeId)(_type:TypeId)(args:Array Value):z8 P Any (Go.Builtin.imag_ _argTypes _type args):=by
 unfold Go.Builtin.imag_;obtain⟨l⟩:=args;rcases l with _|⟨a,_|⟨b,_|⟨c,_|⟨d,l⟩⟩⟩⟩
 all_goals first
  |exact trivial
  |(cases a<;>first|exact trivial|skip)
 all_goals(try rename_i o;cases o)
 all_goals try(first|exact trivial|refine z8.bind0 ?_ (fun _=> ?_)|refine z8.ite (fun _=> ?_) (fun _=> ?_))
 all_goals
  repeat' (first|exact trivial|exact fun _=>trivial|with_reducible (first|assumption|exact zn|apply z8.bind0|apply z8.map0|apply z8.forInArray|apply z8.forInRange|apply z8.forInList|apply z8.mapMArray|apply z8.mapMList|apply z8.foldlMList|apply z8.forInRange' |apply z8.ite|intro _)|split|dsimp only)
theorem QZ {P:Program}(_argTypes:Array TypeId)(_type:TypeId)(args:Array Value):z8 P Any (Go.Builtin.real_ _argTypes _type args):=by
 unfold Go.Builtin.real_;obtain⟨l⟩:=args;rcases l with _|⟨a,_|⟨b,_|⟨c,_|⟨d,l⟩⟩⟩⟩
 all_goals first
  |exact trivial
  |(cases a<;>first|exact trivial|skip)
 all_goals(try rename_i o;cases o)
 all_goals try(first|exact trivial|refine z8.bind0 ?_ (fun _=> ?_)|refine z8.ite (fun _=> ?_) (fun _=> ?_))
 all_goals
  repeat' (first|exact trivial|exact fun _=>trivial|with_reducible (first|assumption|exact zn|apply z8.bind0|apply z8.map0|apply z8.forInArray|apply z8.forInRange|apply z8.forInList|apply z8.mapMArray|apply z8.mapMList|apply z8.foldlMList|apply z8.forInRange' |apply z8.ite|intro _)|split|dsimp only)
theorem Qn {P:Program}:z8 P Any (Go.Instr.panicnil):=by
 unfold Go.Instr.panicnil;refine⟨⟨_,rfl,trivial⟩,fun r=> ?_⟩
 cases r<;>exact trivial
theorem zL {P:Program}:(∀n,z8 P Any (behindNumber n))∧
  (∀a,z8 P Any (noView a))∧
  (∀a b,z8 P Any (mayBeOne a b))∧
  (∀t,z8 P Any (typeStr t))∧
  (∀t,z8 P Any (zeroValue t))∧
  (∀t,z8 P Any (sizeOf t))∧
  (∀t,z8 P Any (isAgg t))∧
  (∀a n,z8 P Any (loadCells a n))∧
  (∀t v,z8 P Any (newVar t v))∧
  (∀t,z8 P Any (elemOf t))∧
  (∀v,z8 P Any (asInt v))∧
  (∀a n,z8 P Any (byteVariablesAt a n))∧
  (∀a b,z8 P Any (storeBytes a b))∧
  (∀op x,z8 P Any (Op.unary op x))∧
  (∀a3 s,z8 P Any (Conv.stringToBytes a3 s))∧
  (∀a3 s,z8 P Any (Conv.stringToRunes a3 s))∧
  (∀a,z8 P Any (Conv.seenAt a))∧
  (∀size a8 n base x,z8 P Any (Builtin.mayShare size a8 n base x))∧
  (∀argTypes _type args,z8 P Any (Builtin.cap_ argTypes _type args))∧
  (∀argTypes _type args,z8 P Any (Builtin.len_ argTypes _type args))∧
  (∀y1 y2,z8 P Any (Builtin.max2 y1 y2))∧
  (∀y1 y2,z8 P Any (Builtin.min2 y1 y2))∧
  (∀t v,z8 P Any (Builtin.printOne t v))∧
  (∀a0 x,z8 P Any (Instr.makeInterface a0 x))∧
  (∀a0 x,z8 P Any (Instr.range a0 x))∧
  (∀fn tmps a4 a2 a5 a1,z8 P Any (Instr.enterLoop fn tmps a4 a2 a5 a1))∧
  (∀l args,z8 P Any (Instr.yield l args))∧
  (∀l a7,z8 P Any (Instr.endRound l a7))∧
  (∀l d,z8 P Any (Instr.deferInRound l d))∧
  (∀op k x y,z8 P Any (Op.Complex.arith op k x y))∧
  (∀op k x y,z8 P Any (Op.Complex.cmp op k x y))∧
  (∀a9 x a6,z8 P Any (Op.Complex.conv a9 x a6))∧
  (∀a9 re im a6,z8 P Any (Conv.complexToComplex a9 re im a6)):=by
 refine⟨?_,?_,?_,?_,?_,?_,?_,?_,?_,?_,?_,?_,?_,?_,?_,?_,?_,?_,?_,?_,?_,?_,?_,?_,?_,?_,?_,?_,?_,?_,?_,?_,?_⟩<;>intros<;>(first|unfold Go.behindNumber|unfold Go.noView|unfold Go.mayBeOne|unfold Go.typeStr|unfold Go.zeroValue|unfold Go.sizeOf|unfold Go.isAgg|unfold Go.loadCells|unfold Go.newVar|unfold Go.elemOf|unfold Go.asInt|unfold Go.byteVariablesAt|unfold Go.storeBytes|unfold Go.Op.unary|unfold Go.Conv.stringToBytes|unfold Go.Conv.stringToRunes|unfold Go.Conv.seenAt|unfold Go.Builtin.mayShare|unfold Go.Builtin.cap_|unfold Go.Builtin.len_|unfold Go.Builtin.max2|unfold Go.Builtin.min2|unfold Go.Builtin.printOne|unfold Go.Instr.makeInterface|unfold Go.Instr.range|unfold Go.Instr.enterLoop|unfold Go.Instr.yield|unfold Go.Instr.endRound|unfold Go.Instr.deferInRound|unfold Go.Op.Complex.arith|unfold Go.Op.Complex.cmp|unfold Go.Op.Complex.conv|unfold Go.Conv.complexToComplex)
 all_goals
  repeat' (first|exact trivial|exact fun _=>trivial|with_reducible (first|assumption|exact zn|exact(Qy _)|exact(xU _)|exact(kZ _)|exact(Z4 _)|exact(zo _)|exact(QQ _ _ _ _)|exact(Yv _ _)|exact(XZ _)|exact(Qm _ _ _)|exact(YM _ _ _)|exact(mild_Op_intArith _ _ _ _)|exact(mild_Op_intBits _ _ _ _)|exact(yK _)|exact(Xx _ _)|exact(Xm _ _ _)|exact(VS _)|exact(yM _)|exact(xx _ _ _ _)|exact(Xn _ _ _ _)|exact(Y0 _ _ _)|apply z8.bind0|apply z8.map0|apply z8.forInArray|apply z8.forInRange|apply z8.forInList|apply z8.mapMArray|apply z8.mapMList|apply z8.foldlMList|apply z8.forInRange' |apply z8.ite|intro _)|split|dsimp only)
theorem ZW {P}(n):z8 P Any (behindNumber n):=zL.1 _
theorem VN {P}(a):z8 P Any (noView a):=zL.2.1 _
theorem Qz {P}(a)(b):z8 P Any (mayBeOne a b):=zL.2.2.1 _ _
theorem XX {P}(t):z8 P Any (typeStr t):=zL.2.2.2.1 _
theorem ya {P}(t):z8 P Any (zeroValue t):=zL.2.2.2.2.1 _
theorem Zf {P}(t):z8 P Any (sizeOf t):=zL.2.2.2.2.2.1 _
theorem Uj {P}(t):z8 P Any (isAgg t):=zL.2.2.2.2.2.2.1 _
theorem k_ {P}(a)(n):z8 P Any (loadCells a n):=zL.2.2.2.2.2.2.2.1 _ _
theorem xV {P}(t)(v):z8 P Any (newVar t v):=zL.2.2.2.2.2.2.2.2.1 _ _
theorem ye {P}(t):z8 P Any (elemOf t):=zL.2.2.2.2.2.2.2.2.2.1 _
theorem yL {P}(v):z8 P Any (asInt v):=zL.2.2.2.2.2.2.2.2.2.2.1 _
theorem KH {P}(op)(x):z8 P Any (Op.unary op x):=zL.2.2.2.2.2.2.2.2.2.2.2.2.2.1 _ _
theorem Xu {P}(elem)(s):z8 P Any (Conv.stringToBytes elem s):=zL.2.2.2.2.2.2.2.2.2.2.2.2.2.2.1 _ _
theorem Xt {P}(elem)(s):z8 P Any (Conv.stringToRunes elem s):=zL.2.2.2.2.2.2.2.2.2.2.2.2.2.2.2.1 _ _
theorem Vs {P}(a):z8 P Any (Conv.seenAt a):=zL.2.2.2.2.2.2.2.2.2.2.2.2.2.2.2.2.1 _
theorem qu {P}(size)(sLen)(n)(base)(x):z8 P Any (Builtin.mayShare size sLen n base x):=zL.2.2.2.2.2.2.2.2.2.2.2.2.2.2.2.2.2.1 _ _ _ _ _
theorem vT {P}(argTypes)(_type)(args):z8 P Any (Builtin.cap_ argTypes _type args):=zL.2.2.2.2.2.2.2.2.2.2.2.2.2.2.2.2.2.2.1 _ _ _
theorem ZX {P}(argTypes)(_type)(args):z8 P Any (Builtin.len_ argTypes _type args):=zL.2.2.2.2.2.2.2.2.2.2.2.2.2.2.2.2.2.2.2.1 _ _ _
theorem vS {P}(y1)(y2):z8 P Any (Builtin.max2 y1 y2):=zL.2.2.2.2.2.2.2.2.2.2.2.2.2.2.2.2.2.2.2.2.1 _ _
theorem vQ {P}(y1)(y2):z8 P Any (Builtin.min2 y1 y2):=zL.2.2.2.2.2.2.2.2.2.2.2.2.2.2.2.2.2.2.2.2.2.1 _ _
theorem qt {P}(t)(v):z8 P Any (Builtin.printOne t v):=zL.2.2.2.2.2.2.2.2.2.2.2.2.2.2.2.2.2.2.2.2.2.2.1 _ _
theorem X5 {P}(xType)(x):z8 P Any (Instr.makeInterface xType x):=zL.2.2.2.2.2.2.2.2.2.2.2.2.2.2.2.2.2.2.2.2.2.2.2.1 _ _
theorem Vo {P}(xType)(x):z8 P Any (Instr.range xType x):=zL.2.2.2.2.2.2.2.2.2.2.2.2.2.2.2.2.2.2.2.2.2.2.2.2.1 _ _
theorem Yy {P}(fn)(tmps)(params)(assign)(body)(around):z8 P Any (Instr.enterLoop fn tmps params assign body around):=zL.2.2.2.2.2.2.2.2.2.2.2.2.2.2.2.2.2.2.2.2.2.2.2.2.2.1 _ _ _ _ _ _
theorem YU {P}(l)(jump):z8 P Any (Instr.endRound l jump):=zL.2.2.2.2.2.2.2.2.2.2.2.2.2.2.2.2.2.2.2.2.2.2.2.2.2.2.2.1 _ _
theorem yT {P}(l)(d):z8 P Any (Instr.deferInRound l d):=zL.2.2.2.2.2.2.2.2.2.2.2.2.2.2.2.2.2.2.2.2.2.2.2.2.2.2.2.2.1 _ _
theorem zX {P}(op)(k)(x)(y):z8 P Any (Op.Complex.arith op k x y):=zL.2.2.2.2.2.2.2.2.2.2.2.2.2.2.2.2.2.2.2.2.2.2.2.2.2.2.2.2.2.1 _ _ _ _
theorem qJ {P}(src)(x)(dst):z8 P Any (Op.Complex.conv src x dst):=zL.2.2.2.2.2.2.2.2.2.2.2.2.2.2.2.2.2.2.2.2.2.2.2.2.2.2.2.2.2.2.2.1 _ _ _
theorem xz {P}(src)(re)(im)(dst):z8 P Any (Conv.complexToComplex src re im dst):=zL.2.2.2.2.2.2.2.2.2.2.2.2.2.2.2.2.2.2.2.2.2.2.2.2.2.2.2.2.2.2.2.2 _ _ _ _
theorem Z7 {P:Program}:(∀n,z8 P Any (backFromNumber n))∧
  (∀a b,z8 P Any (sameAddr a b))∧
  (∀t a,z8 P Any (loadVar t a))∧
  (∀t a v,z8 P Any (storeVar t a v))∧
  (∀t cs off,z8 P Any (part t cs off))∧
  (∀{α:Type} (e:RuntimeError),z8 P Any (Go.runtimePanic e:Sem α))∧
  (∀a,z8 P Any (byteOf a))∧
  (∀x,z8 P Any (Conv.bytesToString x))∧
  (∀x,z8 P Any (Conv.runesToString x))∧
  (∀a8 a5 x,z8 P Any (Conv.unsafePointer a8 a5 x))∧
  (∀size n y1,z8 P Any (Builtin.firstCells size n y1))∧
  (∀argTypes _type args,z8 P Any (Builtin.clear_ argTypes _type args))∧
  (∀_argTypes _type args,z8 P Any (Builtin.max_ _argTypes _type args))∧
  (∀_argTypes _type args,z8 P Any (Builtin.min_ _argTypes _type args))∧
  (∀ln a2 argTypes args,z8 P Any (Builtin.pieces ln a2 argTypes args))∧
  (∀a4 v,z8 P Any (Instr.box a4 v))∧
  (∀t a0,z8 P Any (Instr.build t a0))∧
  (∀t a6 a0,z8 P Any (Instr.buildSlice t a6 a0))∧
  (∀t a1,z8 P Any (Instr.makeMap t a1))∧
  (∀_mapType a7 a3 value,z8 P Any (Instr.entryStore _mapType a7 a3 value)):=by
 refine⟨?_,?_,?_,?_,?_,?_,?_,?_,?_,?_,?_,?_,?_,?_,?_,?_,?_,?_,?_,?_⟩<;>intros<;>(first|unfold Go.backFromNumber|unfold Go.sameAddr|unfold Go.loadVar|unfold Go.storeVar|unfold Go.part|unfold Go.runtimePanic|unfold Go.byteOf|unfold Go.Conv.bytesToString|unfold Go.Conv.runesToString|unfold Go.Conv.unsafePointer|unfold Go.Builtin.firstCells|unfold Go.Builtin.clear_|unfold Go.Builtin.max_|unfold Go.Builtin.min_|unfold Go.Builtin.pieces|unfold Go.Instr.box|unfold Go.Instr.build|unfold Go.Instr.buildSlice|unfold Go.Instr.makeMap|unfold Go.Instr.entryStore)
 all_goals
  repeat' (first|exact trivial|exact fun _=>trivial|with_reducible (first|assumption|exact zn|exact(ZW _)|exact(Qz _ _)|exact(VN _)|exact(Uj _)|exact(k_ _ _)|exact(Zf _)|exact(YM _ _ _)|exact(ye _)|exact(xV _ _)|exact(Vs _)|exact(QA _ _)|exact(j_ _)|exact(zo _)|exact(Yd _ _ _)|exact(ya _)|exact(vS _ _)|exact(vQ _ _)|exact(qt _ _)|exact(Yv _ _)|exact(yL _)|apply z8.bind0|apply z8.map0|apply z8.forInArray|apply z8.forInRange|apply z8.forInList|apply z8.mapMArray|apply z8.mapMList|apply z8.foldlMList|apply z8.forInRange' |apply z8.ite|intro _)|split|dsimp only)
theorem Qx {P}(a)(b):z8 P Any (sameAddr a b):=Z7.2.1 _ _
theorem XY {P}(t)(a):z8 P Any (loadVar t a):=Z7.2.2.1 _ _
theorem KF {P}(t)(a)(v):z8 P Any (storeVar t a v):=Z7.2.2.2.1 _ _ _
theorem Ye {P}(t)(cs)(off):z8 P Any (part t cs off):=Z7.2.2.2.2.1 _ _ _
theorem zF {P:Program}{α:Type}(e:RuntimeError):z8 P Any (Go.runtimePanic e:Sem α):=Z7.2.2.2.2.2.1 _
theorem VR {P}(a):z8 P Any (byteOf a):=Z7.2.2.2.2.2.2.1 _
theorem Xw {P}(x):z8 P Any (Conv.bytesToString x):=Z7.2.2.2.2.2.2.2.1 _
theorem Xv {P}(x):z8 P Any (Conv.runesToString x):=Z7.2.2.2.2.2.2.2.2.1 _
theorem Xs {P}(src)(dst)(x):z8 P Any (Conv.unsafePointer src dst x):=Z7.2.2.2.2.2.2.2.2.2.1 _ _ _
theorem Xy {P}(size)(n)(y1):z8 P Any (Builtin.firstCells size n y1):=Z7.2.2.2.2.2.2.2.2.2.2.1 _ _ _
theorem Qu {P}(argTypes)(_type)(args):z8 P Any (Builtin.clear_ argTypes _type args):=Z7.2.2.2.2.2.2.2.2.2.2.2.1 _ _ _
theorem vR {P}(_argTypes)(_type)(args):z8 P Any (Builtin.max_ _argTypes _type args):=Z7.2.2.2.2.2.2.2.2.2.2.2.2.1 _ _ _
theorem vP {P}(_argTypes)(_type)(args):z8 P Any (Builtin.min_ _argTypes _type args):=Z7.2.2.2.2.2.2.2.2.2.2.2.2.2.1 _ _ _
theorem Qs {P}(ln)(consts)(argTypes)(args):z8 P Any (Builtin.pieces ln consts argTypes args):=Z7.2.2.2.2.2.2.2.2.2.2.2.2.2.2.1 _ _ _ _
theorem K4 {P}(elem)(v):z8 P Any (Instr.box elem v):=Z7.2.2.2.2.2.2.2.2.2.2.2.2.2.2.2.1 _ _
theorem Vq {P}(t)(parts):z8 P Any (Instr.build t parts):=Z7.2.2.2.2.2.2.2.2.2.2.2.2.2.2.2.2.1 _ _
theorem qr {P}(t)(len)(parts):z8 P Any (Instr.buildSlice t len parts):=Z7.2.2.2.2.2.2.2.2.2.2.2.2.2.2.2.2.2.1 _ _ _
theorem QT {P}(t)(reserve):z8 P Any (Instr.makeMap t reserve):=Z7.2.2.2.2.2.2.2.2.2.2.2.2.2.2.2.2.2.2.1 _ _
theorem qq {P}(_mapType)(map)(stamp)(value):z8 P Any (Instr.entryStore _mapType map stamp value):=Z7.2.2.2.2.2.2.2.2.2.2.2.2.2.2.2.2.2.2.2 _ _ _ _
theorem ZG {P:Program}(_argTypes:Array TypeId)(_type:TypeId)(args:Array Value):z8 P Any (Go.Builtin.unsafeAdd_ _argTypes _type args):=by
 unfold Go.Builtin.unsafeAdd_;obtain⟨l⟩:=args;rcases l with _|⟨a,_|⟨b,_|⟨c,_|⟨d,l⟩⟩⟩⟩
 all_goals first
  |exact trivial
  |(cases a<;>first|exact trivial|skip)
 all_goals(try rename_i o;cases o)
 all_goals try(first|exact trivial|refine z8.bind0 ?_ (fun _=> ?_)|refine z8.ite (fun _=> ?_) (fun _=> ?_))
 all_goals
  repeat' (first|exact trivial|exact fun _=>trivial|with_reducible (first|assumption|exact zn|exact(ZX _ _ _)|exact(yL _)|exact(xU _)|apply z8.bind0|apply z8.map0|apply z8.forInArray|apply z8.forInRange|apply z8.forInList|apply z8.mapMArray|apply z8.mapMList|apply z8.foldlMList|apply z8.forInRange' |apply z8.ite|intro _)|split|dsimp only)
theorem Yz {P:Program}(_argTypes:Array TypeId)(a0:TypeId)(args:Array Value):z8 P Any (Go.Builtin.unsafeSliceData_ _argTypes a0 args):=by
 unfold Go.Builtin.unsafeSliceData_;obtain⟨l⟩:=args;rcases l with _|⟨a,_|⟨b,l⟩⟩
 ·exact trivial
 ·cases a with
  |slice base n c=>
   cases base with
   |none=>exact trivial
   |some a=>
    refine z8.ite (fun _=>trivial) (fun _=> ?_);refine z8.bind0 (xU _) (fun _=>z8.ite (fun _=>trivial) (fun _=> ?_));exact z8.bind0 (ye _) fun _=>z8.bind0 (yb _) fun _=>trivial
  |_=>exact trivial
 ·exact trivial
theorem Yg {P:Program}(_argTypes:Array TypeId)(a0:TypeId)(args:Array Value):z8 P Any (Go.Builtin.unsafeStringData_ _argTypes a0 args):=by
 unfold Go.Builtin.unsafeStringData_;obtain⟨l⟩:=args;rcases l with _|⟨a,_|⟨b,_|⟨c,_|⟨d,l⟩⟩⟩⟩
 all_goals first
  |exact trivial
  |(cases a<;>first|exact trivial|skip)
 all_goals(try rename_i o;cases o)
 all_goals try(first|exact trivial|refine z8.bind0 ?_ (fun _=> ?_)|refine z8.ite (fun _=> ?_) (fun _=> ?_))
 all_goals
  repeat' (first|exact trivial|exact fun _=>trivial|with_reducible (first|assumption|exact zn|exact(ye _)|exact(yK _)|exact(Yv _ _)|apply z8.bind0|apply z8.map0|apply z8.forInArray|apply z8.forInRange|apply z8.forInList|apply z8.mapMArray|apply z8.mapMList|apply z8.foldlMList|apply z8.forInRange' |apply z8.ite|intro _)|split|dsimp only)
theorem YT {P:Program}(x y:Nat):z8 P Any (Go.Op.Complex.add x y):=zX _ _ _ _
theorem YQ {P:Program}(x y:Nat):z8 P Any (Go.Op.Complex.sub x y):=zX _ _ _ _
theorem YS {P:Program}(x y:Nat):z8 P Any (Go.Op.Complex.mul x y):=zX _ _ _ _
theorem YR {P:Program}(x y:Nat):z8 P Any (Go.Op.Complex.quo x y):=zX _ _ _ _
theorem zZ {P:Program}:(∀y1 y2,z8 P Any (samePointer y1 y2))∧
  (∀{α:Type} (k:IntKind) (x y:Int) (a8:BoundsCode),z8 P Any (Go.boundsPanic k x y a8:Sem α))∧
  (∀y1,z8 P Any (asAddr y1))∧
  (∀base a5 a4,z8 P Any (partAt base a5 a4))∧
  (∀a b,z8 P Any (Op.twoPlaces a b))∧
  (∀k a n,z8 P Any (Op.addrMod k a n))∧
  (∀op k x y,z8 P Any (Op.intDiv op k x y))∧
  (∀op k x _yk y,z8 P Any (Op.shift op k x _yk y))∧
  (∀argTypes _type args,z8 P Any (Builtin.append_ argTypes _type args))∧
  (∀argTypes _type args,z8 P Any (Builtin.copy_ argTypes _type args))∧
  (∀t a3,z8 P Any (Instr.loadAt t a3))∧
  (∀t a3 b3,z8 P Any (Instr.storeAt t a3 b3))∧
  (∀b0 x,z8 P Any (Instr.arrayAt b0 x))∧
  (∀a9 heap b2,z8 P Any (Instr.alloc a9 heap b2))∧
  (∀a1 x a6,z8 P Any (Instr.field a1 x a6))∧
  (∀t size,z8 P Any (Instr.makeChan t size))∧
  (∀t b1 cap,z8 P Any (Instr.makeSlice t b1 cap))∧
  (∀t y1,z8 P Any (Place.get t y1))∧
  (∀x,z8 P Any (Instr.panic x))∧
  (∀l,z8 P Any (Instr.beginRound l))∧
  (∀l,z8 P Any (Instr.endLoop l))∧
  (∀x a1 a0 a2,z8 P Any (Instr.typeAssert x a1 a0 a2))∧
  (∀a b c d,z8 P Any (Op.Complex.product a b c d))∧
  (∀a7 a b c d,z8 P Any (Op.Complex.corrected a7 a b c d)):=by
 refine⟨?_,?_,?_,?_,?_,?_,?_,?_,?_,?_,?_,?_,?_,?_,?_,?_,?_,?_,?_,?_,?_,?_,?_,?_⟩<;>intros<;>(first|unfold Go.samePointer|unfold Go.boundsPanic|unfold Go.asAddr|unfold Go.partAt|unfold Go.Op.twoPlaces|unfold Go.Op.addrMod|unfold Go.Op.intDiv|unfold Go.Op.shift|unfold Go.Builtin.append_|unfold Go.Builtin.copy_|unfold Go.Instr.loadAt|unfold Go.Instr.storeAt|unfold Go.Instr.arrayAt|unfold Go.Instr.alloc|unfold Go.Instr.field|unfold Go.Instr.makeChan|unfold Go.Instr.makeSlice|unfold Go.Place.get|unfold Go.Instr.panic|unfold Go.Instr.beginRound|unfold Go.Instr.endLoop|unfold Go.Instr.typeAssert|unfold Go.Op.Complex.product|unfold Go.Op.Complex.corrected)
 all_goals
  repeat' (first|exact trivial|exact fun _=>trivial|with_reducible (first|assumption|exact zn|exact(Qx _ _)|exact(zF _)|exact(VR _)|exact(Z4 _)|exact(Xy _ _ _)|exact(Q_ _)|exact(qu _ _ _ _ _)|exact(yL _)|exact(vJ _)|exact(Yv _ _)|exact(Zf _)|exact(YM _ _ _)|exact(zo _)|exact(ya _)|exact(yq _)|exact(XY _ _)|exact(KF _ _ _)|exact(xV _ _)|exact(K1 _)|exact(Ye _ _ _)|exact(Qn)|exact(yM _)|exact(zX _ _ _ _)|exact(YT _ _)|exact(YQ _ _)|exact(YS _ _)|exact(YR _ _)|apply z8.bind0|apply z8.map0|apply z8.forInArray|apply z8.forInRange|apply z8.forInList|apply z8.mapMArray|apply z8.mapMList|apply z8.foldlMList|apply z8.forInRange' |apply z8.ite|intro _)|split|dsimp only)
theorem Vh {P}(y1)(y2):z8 P Any (samePointer y1 y2):=zZ.1 _ _
theorem Xl {P:Program}{α:Type}(k:IntKind)(x y:Int)(a0:BoundsCode):z8 P Any (Go.boundsPanic k x y a0:Sem α):=zZ.2.1 _ _ _ _
theorem Yw {P}(y1):z8 P Any (asAddr y1):=zZ.2.2.1 _
theorem JL {P}(base)(cells)(bytes):z8 P Any (partAt base cells bytes):=zZ.2.2.2.1 _ _ _
theorem vK {P}(a)(b):z8 P Any (Op.twoPlaces a b):=zZ.2.2.2.2.1 _ _
theorem km {P}(k)(a)(n):z8 P Any (Op.addrMod k a n):=zZ.2.2.2.2.2.1 _ _ _
theorem K2 {P}(op)(k)(x)(y):z8 P Any (Op.intDiv op k x y):=zZ.2.2.2.2.2.2.1 _ _ _ _
theorem KJ {P}(op)(k)(x)(_yk)(y):z8 P Any (Op.shift op k x _yk y):=zZ.2.2.2.2.2.2.2.1 _ _ _ _ _
theorem qN {P}(argTypes)(_type)(args):z8 P Any (Builtin.append_ argTypes _type args):=zZ.2.2.2.2.2.2.2.2.1 _ _ _
theorem v8 {P}(argTypes)(_type)(args):z8 P Any (Builtin.copy_ argTypes _type args):=zZ.2.2.2.2.2.2.2.2.2.1 _ _ _
theorem vO {P}(t)(addr):z8 P Any (Instr.loadAt t addr):=zZ.2.2.2.2.2.2.2.2.2.2.1 _ _
theorem QR {P}(t)(addr)(val):z8 P Any (Instr.storeAt t addr val):=zZ.2.2.2.2.2.2.2.2.2.2.2.1 _ _ _
theorem QY {P}(arr)(x):z8 P Any (Instr.arrayAt arr x):=zZ.2.2.2.2.2.2.2.2.2.2.2.2.1 _ _
theorem Vr {P}(elem)(heap)(old):z8 P Any (Instr.alloc elem heap old):=zZ.2.2.2.2.2.2.2.2.2.2.2.2.2.1 _ _ _
theorem Xr {P}(xType)(x)(field):z8 P Any (Instr.field xType x field):=zZ.2.2.2.2.2.2.2.2.2.2.2.2.2.2.1 _ _ _
theorem Qq {P}(t)(size):z8 P Any (Instr.makeChan t size):=zZ.2.2.2.2.2.2.2.2.2.2.2.2.2.2.2.1 _ _
theorem qK {P}(t)(len)(cap):z8 P Any (Instr.makeSlice t len cap):=zZ.2.2.2.2.2.2.2.2.2.2.2.2.2.2.2.2.1 _ _ _
theorem xw {P}(t)(y1):z8 P Any (Place.get t y1):=zZ.2.2.2.2.2.2.2.2.2.2.2.2.2.2.2.2.2.1 _ _
theorem Xp {P}(x):z8 P Any (Instr.panic x):=zZ.2.2.2.2.2.2.2.2.2.2.2.2.2.2.2.2.2.2.1 _
theorem Y9 {P}(l):z8 P Any (Instr.beginRound l):=zZ.2.2.2.2.2.2.2.2.2.2.2.2.2.2.2.2.2.2.2.1 _
theorem xy {P}(l):z8 P Any (Instr.endLoop l):=zZ.2.2.2.2.2.2.2.2.2.2.2.2.2.2.2.2.2.2.2.2.1 _
theorem qm {P}(x)(xType)(asserted)(commaOk):z8 P Any (Instr.typeAssert x xType asserted commaOk):=zZ.2.2.2.2.2.2.2.2.2.2.2.2.2.2.2.2.2.2.2.2.2.1 _ _ _ _
theorem Xo {P}(a)(b)(c)(d):z8 P Any (Op.Complex.product a b c d):=zZ.2.2.2.2.2.2.2.2.2.2.2.2.2.2.2.2.2.2.2.2.2.2.1 _ _ _ _
theorem xK {P}(scale)(a)(b)(c)(d):z8 P Any (Op.Complex.corrected scale a b c d):=zZ.2.2.2.2.2.2.2.2.2.2.2.2.2.2.2.2.2.2.2.2.2.2.2 _ _ _ _ _
theorem vL {P:Program}(y1:Nat)(y2:TypeId)(y3:Value)(y4:Value):z8 P Any (Go.Op.eqGuardIn y1 y2 y3 y4):=by
 induction y1 generalizing y2 y3 y4 with
 |zero=> ?_
 |succ n ih=> ?_
 all_goals
  unfold Go.Op.eqGuardIn;repeat' (first|exact trivial|exact fun _=>trivial|with_reducible (first|assumption|exact zn|exact(Ye _ _ _)|exact(Zf _)|exact(zo _)|exact ih _ _ _|apply z8.bind0|apply z8.map0|apply z8.forInArray|apply z8.forInRange|apply z8.forInList|apply z8.mapMArray|apply z8.mapMList|apply z8.foldlMList|apply z8.forInRange' |apply z8.ite|intro _)|split|dsimp only)
theorem Qt {P:Program}(_argTypes:Array TypeId)(_type:TypeId)(args:Array Value):z8 P Any (Go.Builtin.close_ _argTypes _type args):=by
 unfold Go.Builtin.close_;obtain⟨l⟩:=args;rcases l with _|⟨a,_|⟨b,_|⟨c,_|⟨d,l⟩⟩⟩⟩
 all_goals first
  |exact trivial
  |(cases a<;>first|exact trivial|skip)
 all_goals(try rename_i o;cases o)
 all_goals try(first|exact trivial|refine z8.bind0 ?_ (fun _=> ?_)|refine z8.ite (fun _=> ?_) (fun _=> ?_))
 all_goals
  repeat' (first|exact trivial|exact fun _=>trivial|with_reducible (first|assumption|exact zn|exact(zF _)|apply z8.bind0|apply z8.map0|apply z8.forInArray|apply z8.forInRange|apply z8.forInList|apply z8.mapMArray|apply z8.mapMList|apply z8.foldlMList|apply z8.forInRange' |apply z8.ite|intro _)|split|dsimp only)
theorem xL {P:Program}(argTypes:Array TypeId)(_type:TypeId)(args:Array Value):z8 P Any (Go.Builtin.unsafeSlice_ argTypes _type args):=by
 unfold Go.Builtin.unsafeSlice_;obtain⟨l⟩:=args;rcases l with _|⟨a,_|⟨b,_|⟨c,_|⟨d,l⟩⟩⟩⟩
 all_goals first
  |exact trivial
  |(cases a<;>first|exact trivial|skip)
 all_goals(try rename_i o;cases o)
 all_goals try(first|exact trivial|refine z8.bind0 ?_ (fun _=> ?_)|refine z8.ite (fun _=> ?_) (fun _=> ?_))
 all_goals
  repeat' (first|exact trivial|exact fun _=>trivial|with_reducible (first|assumption|exact zn|exact(ZX _ _ _)|exact(yL _)|exact(ye _)|exact(zF _)|exact(Zf _)|exact(Z4 _)|exact(Yd _ _ _)|exact(xU _)|apply z8.bind0|apply z8.map0|apply z8.forInArray|apply z8.forInRange|apply z8.forInList|apply z8.mapMArray|apply z8.mapMList|apply z8.foldlMList|apply z8.forInRange' |apply z8.ite|intro _)|split|dsimp only)
theorem xA {P:Program}(argTypes:Array TypeId)(_type:TypeId)(args:Array Value):z8 P Any (Go.Builtin.unsafeString_ argTypes _type args):=by
 unfold Go.Builtin.unsafeString_;obtain⟨l⟩:=args;rcases l with _|⟨a,_|⟨b,_|⟨c,_|⟨d,l⟩⟩⟩⟩
 all_goals first
  |exact trivial
  |(cases a<;>first|exact trivial|skip)
 all_goals(try rename_i o;cases o)
 all_goals try(first|exact trivial|refine z8.bind0 ?_ (fun _=> ?_)|refine z8.ite (fun _=> ?_) (fun _=> ?_))
 all_goals
  repeat' (first|exact trivial|exact fun _=>trivial|with_reducible (first|assumption|exact zn|exact(ZX _ _ _)|exact(yL _)|exact(ye _)|exact(K0 _ _ _)|exact(zF _)|exact(Yd _ _ _)|apply z8.bind0|apply z8.map0|apply z8.forInArray|apply z8.forInRange|apply z8.forInList|apply z8.mapMArray|apply z8.mapMList|apply z8.foldlMList|apply z8.forInRange' |apply z8.ite|intro _)|split|dsimp only)
theorem Qr {P:Program}(a0:Bool)(y1:Nat)(y2:TypeId)(y3:Value):z8 P Any (Go.Instr.checkKey a0 y1 y2 y3):=by
 induction y1 generalizing y2 y3 with
 |zero=> ?_
 |succ n ih=> ?_
 all_goals
  unfold Go.Instr.checkKey;repeat' (first|exact trivial|exact fun _=>trivial|with_reducible (first|assumption|exact zn|exact(Ye _ _ _)|exact(zF _)|exact(Zf _)|exact(Z4 _)|exact(XX _)|exact(zo _)|exact ih _ _|apply z8.bind0|apply z8.map0|apply z8.forInArray|apply z8.forInRange|apply z8.forInList|apply z8.mapMArray|apply z8.mapMList|apply z8.foldlMList|apply z8.forInRange' |apply z8.ite|intro _)|split|dsimp only)
theorem Vk {P:Program}(y1:List FieldStep)(y2:TypeId)(y3:Option Value):z8 P Any (Go.followBlind y1 y2 y3):=by
 induction y1 generalizing y2 y3 with
 |nil=> ?_
 |cons x l ih=> ?_
 all_goals
  unfold Go.followBlind;repeat' (first|exact trivial|exact fun _=>trivial|with_reducible (first|assumption|exact zn|exact(Ye _ _ _)|exact(zo _)|exact ih _ _|apply z8.bind0|apply z8.map0|apply z8.forInArray|apply z8.forInRange|apply z8.forInList|apply z8.mapMArray|apply z8.mapMList|apply z8.foldlMList|apply z8.forInRange' |apply z8.ite|intro _)|split|dsimp only)
theorem YX {P:Program}(argTypes:Array TypeId)(_type:TypeId)(args:Array Value):z8 P Any (Go.Builtin.ssaWrapNilChk_ argTypes _type args):=by
 unfold Go.Builtin.ssaWrapNilChk_;obtain⟨l⟩:=args;rcases l with _|⟨a,_|⟨b,_|⟨c,_|⟨d,l⟩⟩⟩⟩
 ·exact trivial
 ·exact trivial
 ·exact trivial
 ·cases b with
  |string s=>
   cases c with
   |string m=>
    cases a with
    |pointer o=>
     cases o with
     |some a=>exact trivial
     |none=>
      refine z8.bind0 (Z8 _) (fun _=> ?_);repeat' (first|exact trivial|exact fun _=>trivial|with_reducible (first|assumption|exact zn|exact(VP _ _ _ _)|exact(zF _)|exact(Z4 _)|exact(zo _)|apply z8.bind0|apply z8.map0|apply z8.forInArray|apply z8.forInRange|apply z8.forInList|apply z8.mapMArray|apply z8.mapMList|apply z8.foldlMList|apply z8.forInRange' |apply z8.ite|intro _)|split|dsimp only)
    |_=>exact trivial
   |_=>exact trivial
  |_=>exact trivial
 ·exact trivial
theorem xu {P:Program}:(∀a f,z8 P Any (fieldPlace a f))∧
  (∀k a b,z8 P Any (Op.addrSub k a b))∧
  (∀op a b,z8 P Any (Op.addrCmp op a b))∧
  (∀a3 x a2,z8 P Any (Instr.index a3 x a2))∧
  (∀x y a4,z8 P Any (Instr.sliceBound x y a4))∧
  (∀a b c d,z8 P Any (Op.Complex.quotient a b c d))∧
  (∀xt x a0 a1,z8 P Any (receiverAt xt x a0 a1)):=by
 refine⟨?_,?_,?_,?_,?_,?_,?_⟩<;>intros<;>(first|unfold Go.fieldPlace|unfold Go.Op.addrSub|unfold Go.Op.addrCmp|unfold Go.Instr.index|unfold Go.Instr.sliceBound|unfold Go.Op.Complex.quotient|unfold Go.receiverAt)
 all_goals
  repeat' (first|exact trivial|exact fun _=>trivial|with_reducible (first|assumption|exact zn|exact(JL _ _ _)|exact(Zf _)|exact(vK _ _)|exact(XZ _)|exact(Xl _ _ _ _)|exact(Ye _ _ _)|exact(zo _)|exact(zX _ _ _ _)|exact(mild_Op_Complex_cmp _ _ _ _)|exact(xK _ _ _ _ _)|exact(YT _ _)|exact(YQ _ _)|exact(YS _ _)|exact(YR _ _)|exact(YX _ _ _)|exact(xw _ _)|exact(Yw _)|exact(XY _ _)|apply z8.bind0|apply z8.map0|apply z8.forInArray|apply z8.forInRange|apply z8.forInList|apply z8.mapMArray|apply z8.mapMList|apply z8.foldlMList|apply z8.forInRange' |apply z8.ite|intro _)|split|dsimp only)
theorem qe {P}(a)(f):z8 P Any (fieldPlace a f):=xu.1 _ _
theorem kl {P}(k)(a)(b):z8 P Any (Op.addrSub k a b):=xu.2.1 _ _ _
theorem ko {P}(op)(a)(b):z8 P Any (Op.addrCmp op a b):=xu.2.2.1 _ _ _
theorem Yf {P}(xType)(x)(index):z8 P Any (Instr.index xType x index):=xu.2.2.2.1 _ _ _
theorem qn {P}(x)(y)(code):z8 P Any (Instr.sliceBound x y code):=xu.2.2.2.2.1 _ _ _
theorem X4 {P}(a)(b)(c)(d):z8 P Any (Op.Complex.quotient a b c d):=xu.2.2.2.2.2.1 _ _ _ _
theorem qd {P}(xt)(x)(pointerReceiver)(wrapper):z8 P Any (receiverAt xt x pointerReceiver wrapper):=xu.2.2.2.2.2.2 _ _ _ _
theorem kj {P:Program}(y1:Nat)(y2:TypeId)(y3:Value)(y4:Value):z8 P Any (Go.Op.equalIn y1 y2 y3 y4):=by
 induction y1 generalizing y2 y3 y4 with
 |zero=> ?_
 |succ n ih=> ?_
 all_goals
  unfold Go.Op.equalIn;repeat' (first|exact trivial|exact fun _=>trivial|with_reducible (first|assumption|exact zn|exact(ZW _)|exact(VR _)|exact(Ye _ _ _)|exact(zF _)|exact(Qx _ _)|exact(Vh _ _)|exact(Zf _)|exact(Z4 _)|exact(XX _)|exact(zo _)|exact ih _ _ _|apply z8.bind0|apply z8.map0|apply z8.forInArray|apply z8.forInRange|apply z8.forInList|apply z8.mapMArray|apply z8.mapMList|apply z8.foldlMList|apply z8.forInRange' |apply z8.ite|intro _)|split|dsimp only)
theorem KG {P:Program}(y1:Nat)(y2:TypeId)(y3:Value)(y4:String):z8 P Any (Go.nilAhead y1 y2 y3 y4):=by
 induction y1 generalizing y2 y3 y4 with
 |zero=> ?_
 |succ n ih=> ?_
 all_goals
  unfold Go.nilAhead;repeat' (first|exact trivial|exact fun _=>trivial|with_reducible (first|assumption|exact zn|exact(Vk _ _ _)|exact(Z4 _)|exact(zo _)|exact ih _ _ _|apply z8.bind0|apply z8.map0|apply z8.forInArray|apply z8.forInRange|apply z8.forInList|apply z8.mapMArray|apply z8.mapMList|apply z8.foldlMList|apply z8.forInRange' |apply z8.ite|intro _)|split|dsimp only)
theorem Xk {P:Program}:(∀t x y,z8 P Any (Op.equal t x y))∧
  (∀a1 a6 cap a7 a5 a8,z8 P Any (Instr.sliceBounds a1 a6 cap a7 a5 a8))∧
  (∀op k xr xi yr yi,z8 P Any (Op.complexOp op k xr xi yr yi))∧
  (∀s a4 a2,z8 P Any (Instr.fieldAt s a4 a2))∧
  (∀t x a0,z8 P Any (Instr.indexAt t x a0))∧
  (∀a3 a0,z8 P Any (Instr.extract a3 a0)):=by
 refine⟨?_,?_,?_,?_,?_,?_⟩<;>intros<;>(first|unfold Go.Op.equal|unfold Go.Instr.sliceBounds|unfold Go.Op.complexOp|unfold Go.Instr.fieldAt|unfold Go.Instr.indexAt|unfold Go.Instr.extract)
 all_goals
  repeat' (first|exact trivial|exact fun _=>trivial|with_reducible (first|assumption|exact zn|exact(kj _ _ _ _)|exact(qn _ _ _)|exact(zX _ _ _ _)|exact(mild_Op_Complex_cmp _ _ _ _)|exact(qJ _ _ _)|exact(Xo _ _ _ _)|exact(X4 _ _ _ _)|exact(Xr _ _ _)|exact(yq _)|exact(qe _ _)|exact(zo _)|exact(Yf _ _ _)|exact(XZ _)|exact(Xl _ _ _ _)|exact(Zf _)|apply z8.bind0|apply z8.map0|apply z8.forInArray|apply z8.forInRange|apply z8.forInList|apply z8.mapMArray|apply z8.mapMList|apply z8.foldlMList|apply z8.forInRange' |apply z8.ite|intro _)|split|dsimp only)
theorem QC {P}(t)(x)(y):z8 P Any (Op.equal t x y):=Xk.1 _ _ _
theorem y_ {P}(isSlice)(len)(cap)(low)(high)(max):z8 P Any (Instr.sliceBounds isSlice len cap low high max):=Xk.2.1 _ _ _ _ _ _
theorem vM {P}(op)(k)(xr)(xi)(yr)(yi):z8 P Any (Op.complexOp op k xr xi yr yi):=Xk.2.2.1 _ _ _ _ _ _
theorem QW {P}(s)(addr)(field):z8 P Any (Instr.fieldAt s addr field):=Xk.2.2.2.1 _ _ _
theorem QU {P}(t)(x)(index):z8 P Any (Instr.indexAt t x index):=Xk.2.2.2.2.1 _ _ _
theorem QX {P}(tuple)(index):z8 P Any (Instr.extract tuple index):=Xk.2.2.2.2.2 _ _
theorem VQ {P:Program}(y1:List FieldStep)(y2:TypeId)(y3:Place):z8 P Any (Go.follow y1 y2 y3):=by
 induction y1 generalizing y2 y3 with
 |nil=> ?_
 |cons x l ih=> ?_
 all_goals
  unfold Go.follow;repeat' (first|exact trivial|exact fun _=>trivial|with_reducible (first|assumption|exact zn|exact(xw _ _)|exact(Yw _)|exact(qe _ _)|exact(Ye _ _ _)|exact(zo _)|exact ih _ _|apply z8.bind0|apply z8.map0|apply z8.forInArray|apply z8.forInRange|apply z8.forInList|apply z8.mapMArray|apply z8.mapMList|apply z8.foldlMList|apply z8.forInRange' |apply z8.ite|intro _)|split|dsimp only)
theorem JN {P:Program}:(∀a1 x a3 a2 a4,z8 P Any (Instr.slice a1 x a3 a2 a4))∧
  (∀t v path a0,z8 P Any (receiverVia t v path a0)):=by
 refine⟨?_,?_⟩<;>intros<;>(first|unfold Go.Instr.slice|unfold Go.receiverVia)
 all_goals
  repeat' (first|exact trivial|exact fun _=>trivial|with_reducible (first|assumption|exact zn|exact(y_ _ _ _ _ _ _)|exact(Yw _)|exact(Zf _)|exact(zo _)|exact(VQ _ _ _)|exact(qd _ _ _ _)|apply z8.bind0|apply z8.map0|apply z8.forInArray|apply z8.forInRange|apply z8.forInList|apply z8.mapMArray|apply z8.mapMList|apply z8.foldlMList|apply z8.forInRange' |apply z8.ite|intro _)|split|dsimp only)
theorem Vm {P}(xType)(x)(low)(high)(max):z8 P Any (Instr.slice xType x low high max):=JN.1 _ _ _ _ _
theorem Vi {P}(t)(v)(path)(pointerReceiver):z8 P Any (receiverVia t v path pointerReceiver):=JN.2 _ _ _ _
theorem qp {P:Program}(a0:TypeId)(k:Value)(y1:List MapEntry)(y2:Nat):z8 P Any (Go.Instr.findAsking a0 k y1 y2):=by
 induction y1 generalizing y2 with
 |nil=> ?_
 |cons x l ih=> ?_
 all_goals
  unfold Go.Instr.findAsking;repeat' (first|exact trivial|exact fun _=>trivial|with_reducible (first|assumption|exact zn|exact(QC _ _ _)|exact ih _|apply z8.bind0|apply z8.map0|apply z8.forInArray|apply z8.forInRange|apply z8.forInList|apply z8.mapMArray|apply z8.mapMList|apply z8.foldlMList|apply z8.forInRange' |apply z8.ite|intro _)|split|dsimp only)
theorem VP {P:Program}(y1:Nat)(y2:TypeId)(y3:Value)(y4:String):z8 P Any (Go.method y1 y2 y3 y4):=by
 induction y1 generalizing y2 y3 y4 with
 |zero=> ?_
 |succ n ih=> ?_
 all_goals
  unfold Go.method;repeat' (first|exact trivial|exact fun _=>trivial|with_reducible (first|assumption|exact zn|exact(xw _ _)|exact(VQ _ _ _)|exact(qd _ _ _ _)|exact(zF _)|exact(Z4 _)|exact ih _ _ _|apply z8.bind0|apply z8.map0|apply z8.forInArray|apply z8.forInRange|apply z8.forInList|apply z8.mapMArray|apply z8.mapMList|apply z8.foldlMList|apply z8.forInRange' |apply z8.ite|intro _)|split|dsimp only)
theorem JM {P:Program}:(∀a0 k es,z8 P Any (Instr.findKey a0 k es))∧
  (∀t x a2 a1 a3,z8 P Any (Instr.sliceAt t x a2 a1 a3)):=by
 refine⟨?_,?_⟩<;>intros<;>(first|unfold Go.Instr.findKey|unfold Go.Instr.sliceAt)
 all_goals
  repeat' (first|exact trivial|exact fun _=>trivial|with_reducible (first|assumption|exact zn|exact(qp _ _ _ _)|exact(zo _)|exact(Vm _ _ _ _ _)|exact(y_ _ _ _ _ _ _)|exact(yq _)|exact(Zf _)|apply z8.bind0|apply z8.map0|apply z8.forInArray|apply z8.forInRange|apply z8.forInList|apply z8.mapMArray|apply z8.mapMList|apply z8.foldlMList|apply z8.forInRange' |apply z8.ite|intro _)|split|dsimp only)
theorem QV {P}(keyType)(k)(es):z8 P Any (Instr.findKey keyType k es):=JM.1 _ _ _
theorem QS {P}(t)(x)(low)(high)(max):z8 P Any (Instr.sliceAt t x low high max):=JM.2 _ _ _ _ _
theorem vI {P:Program}:(∀a3 x a2 a1,z8 P Any (Instr.lookup a3 x a2 a1))∧
  (∀a0 a5 a4 value,z8 P Any (Instr.mapUpdate a0 a5 a4 value))∧
  (∀argTypes _type args,z8 P Any (Builtin.delete_ argTypes _type args))∧
  (∀a0 a5 a4,z8 P Any (Instr.mapEntry a0 a5 a4)):=by
 refine⟨?_,?_,?_,?_⟩<;>intros<;>(first|unfold Go.Instr.lookup|unfold Go.Instr.mapUpdate|unfold Go.Builtin.delete_|unfold Go.Instr.mapEntry)
 all_goals
  repeat' (first|exact trivial|exact fun _=>trivial|with_reducible (first|assumption|exact zn|exact(Qr _ _ _ _)|exact(QV _ _ _)|exact(Yf _ _ _)|exact(zo _)|exact(ya _)|exact(Xq _ _)|exact(zF _)|apply z8.bind0|apply z8.map0|apply z8.forInArray|apply z8.forInRange|apply z8.forInList|apply z8.mapMArray|apply z8.mapMList|apply z8.foldlMList|apply z8.forInRange' |apply z8.ite|intro _)|split|dsimp only)
theorem vN {P}(xType)(x)(index)(commaOk):z8 P Any (Instr.lookup xType x index commaOk):=vI.1 _ _ _ _
theorem Yx {P}(mapType)(map)(key)(value):z8 P Any (Instr.mapUpdate mapType map key value):=vI.2.1 _ _ _ _
theorem qM {P}(argTypes)(_type)(args):z8 P Any (Builtin.delete_ argTypes _type args):=vI.2.2.1 _ _ _
theorem Qo {P}(mapType)(map)(key):z8 P Any (Instr.mapEntry mapType map key):=vI.2.2.2 _ _ _
