import GoSem.Step
import Derived.Laws.Sem
set_option linter.all false
set_option maxHeartbeats 20000000
set_option maxRecDepth 1000000
namespace Go.Proofs.YtolgebdmffcemaaGreatDoor
open Go
def Vh:Halt→Prop
 | .panic _| .fatal _| .throw _| .unsupported _| .stuck _=>True
 |_=>False
def qW:Halt→Prop
 | .stuck _=>True
 | .unsupported (.initOrder _)=>False
 | .unsupported _=>True
 |_=>False
def Gn (m:Mark):Prop:=m≠ .disable∧m≠ .enable
def z4 (P:Program){α:Type}(F:α→Prop):Sem α→Prop
 | .pure a=>F a
 | .load _ _ k=>∀v,z4 P F (k v)
 | .store _ _ _ k=>z4 P F k
 | .new _ k=>∀r,z4 P F (k r)
 | .shape _ k=>∀s,z4 P F (k s)
 | .freeze _ _ k=>z4 P F k
 | .frozen _ k=>∀b,z4 P F (k b)
 | .getObj _ k=>∀o,z4 P F (k o)
 | .setObj _ _ k=>z4 P F k
 | .choose _ k=>∀n,z4 P F (k n)
 | .sys _ k=>(∃h,k .wouldBlock= .halt h∧qW h)∧∀r,z4 P F (k r)
 | .program k=>z4 P F (k P)
 | .mark m k=>Gn m∧z4 P F k
 | .halt h=>Vh h
def Any {α:Type}(_:α):Prop:=True
section
variable {P:Program}{α β:Type}
theorem z4.mono {F G:α→Prop}(h:∀a,F a→G a):∀{s:Sem α},z4 P F s→z4 P G s:=by
 intro s;induction s with
 |pure a=>exact h a
 |load m a k ih=>exact fun x v=>ih v (x v)
 |store m a v k ih=>exact ih
 |new o k ih=>exact fun x v=>ih v (x v)
 |shape r k ih=>exact fun x v=>ih v (x v)
 |freeze a n k ih=>exact ih
 |frozen a k ih=>exact fun x v=>ih v (x v)
 |getObj r k ih=>exact fun x v=>ih v (x v)
 |setObj r o k ih=>exact ih
 |choose q k ih=>exact fun x v=>ih v (x v)
 |sys c k ih=>exact fun x=>⟨x.1,fun r=>ih r (x.2 r)⟩
 |program k ih=>exact ih P
 |mark m k ih=>exact fun x=>⟨x.1,ih x.2⟩
 |halt x=>exact id
theorem z4.bind' {F:α→Prop}{G:β→Prop}{f:α→Sem β}(hf:∀a,F a→z4 P G (f a)):∀{s:Sem α},z4 P F s→z4 P G (s.bind f):=by
 intro s;induction s with
 |pure a=>exact hf a
 |load m a k ih=>exact fun x v=>ih v (x v)
 |store m a v k ih=>exact ih
 |new o k ih=>exact fun x v=>ih v (x v)
 |shape r k ih=>exact fun x v=>ih v (x v)
 |freeze a n k ih=>exact ih
 |frozen a k ih=>exact fun x v=>ih v (x v)
 |getObj r k ih=>exact fun x v=>ih v (x v)
 |setObj r o k ih=>exact ih
 |choose q k ih=>exact fun x v=>ih v (x v)
 |sys c k ih=>exact fun x=>⟨let⟨h,h1,h2⟩:=x.1;⟨h,by show(k .wouldBlock).bind f=_;rw[h1];rfl,h2⟩,fun r=>ih r (x.2 r)⟩
 |program k ih=>exact ih P
 |mark m k ih=>exact fun x=>⟨x.1,ih x.2⟩
 |halt x=>exact id
theorem z4.bind {F:α→Prop}{G:β→Prop}{f:α→Sem β}{s:Sem α}(hs:z4 P F s)(hf:∀a,F a→z4 P G (f a)):z4 P G (s>>=f):=z4.bind' hf hs
theorem z4.bind0 {G:β→Prop}{f:α→Sem β}{s:Sem α}(hs:z4 P Any s)(hf:∀a,z4 P G (f a)):z4 P G (s>>=f):=z4.bind' (fun a _=>hf a) hs
theorem z4.map0 {f:α→β}{s:Sem α}(hs:z4 P Any s):z4 P Any (f<$>s):=by
 have h:(f<$>s)=s>>=fun a=>Pure.pure (f a):=by simp
 rw[h];exact z4.bind0 hs fun _=>by exact trivial
theorem z4.forInList {γ:Type}(f:α→γ→Sem (ForInStep γ))(h:∀a s,z4 P Any (f a s)):∀(l:List α) (a0:γ),z4 P Any (forIn l a0 f)
 |[],a0=>by simp only[List.forIn_nil];trivial
 |a::l,a0=>by
  simp only[List.forIn_cons];refine z4.bind0 (h a a0) (fun r=> ?_)
  cases r with
  |done b=>trivial
  |yield b=>exact z4.forInList f h l b
theorem z4.forInArray {γ:Type}(f:α→γ→Sem (ForInStep γ))(h:∀a s,z4 P Any (f a s))(l:Array α)(a0:γ):z4 P Any (forIn l a0 f):=by
 rw[←Array.forIn_toList];exact z4.forInList f h l.toList a0
theorem z4.forInRange {γ:Type}(f:Nat→γ→Sem (ForInStep γ))(h:∀a s,z4 P Any (f a s))(r:Std.Legacy.Range)(a0:γ):z4 P Any (forIn r a0 f):=by
 rw[Std.Legacy.Range.forIn_eq_forIn_range'];exact z4.forInList f h _ a0
theorem z4.mapMLoop (f:α→Sem β)(h:∀a,z4 P Any (f a)):∀(l:List α) (a0:List β),z4 P Any (List.mapM.loop f l a0)
 |[],a0=>trivial
 |a::l,a0=>by
  unfold List.mapM.loop;exact z4.bind0 (h a) fun b=>z4.mapMLoop f h l (b::a0)
theorem z4.mapMList (f:α→Sem β)(h:∀a,z4 P Any (f a))(l:List α):z4 P Any (l.mapM f):=z4.mapMLoop f h l []
theorem z4.mapMArray (f:α→Sem β)(h:∀a,z4 P Any (f a))(as:Array α):z4 P Any (as.mapM f):=by
 rw[Array.mapM_eq_mapM_toList];exact z4.map0 (z4.mapMList f h as.toList)
theorem z4.ite {c:Prop} [Decidable c] {F:α→Prop}{x y:Sem α}(h1:c→z4 P F x)(h2:¬c→z4 P F y):z4 P F (if c then x else y):=by
 by_cases h:c
 ·rw[if_pos h];exact h1 h
 ·rw[if_neg h];exact h2 h
theorem z4.foldlMList {γ:Type}(f:γ→α→Sem γ)(h:∀a s,z4 P Any (f s a)):∀(l:List α) (a0:γ),z4 P Any (l.foldlM f a0)
 |[],_=>trivial
 |a::l,a0=>by
  rw[List.foldlM_cons];exact z4.bind0 (h a a0) fun b=>z4.foldlMList f h l b
theorem z4.forInList' {γ:Type}:∀(l:List α) (f:(a:α)→a∈l→γ→Sem (ForInStep γ)) (_:∀a h s,z4 P Any (f a h s)) (a0:γ),z4 P Any (forIn' l a0 f)
 |[],f,h,a0=>by simp only[List.forIn'_nil];trivial
 |a::l,f,h,a0=>by
  simp only[List.forIn'_cons];refine z4.bind0 (h a _ a0) (fun r=> ?_)
  cases r with
  |done b=>trivial
  |yield b=>exact z4.forInList' l _ (fun a h' s=>h a _ s) b
theorem z4.forInRange' {γ:Type}(r:Std.Legacy.Range)(f:(a:Nat)→a∈r→γ→Sem (ForInStep γ))(h:∀a h s,z4 P Any (f a h s))(a0:γ):z4 P Any (forIn' r a0 f):=by
 rw[Std.Legacy.Range.forIn'_eq_forIn'_range'];exact z4.forInList' _ _ (fun a h' s=>h a _ s) a0
theorem Zq {F:α→Prop}(s:String):z4 P F (stuck s:Sem α):=trivial
theorem zp {F:α→Prop}(u:Unsupported):z4 P F (unsupported u:Sem α):=trivial
theorem Jg:z4 P (·=P) (program:Sem Program):=rfl
theorem y9 (a:Addr)(m:Mode):z4 P Any (load a m):=fun _=>trivial
theorem ZB (a:Addr)(v:Value)(m:Mode):z4 P Any (store a v m):=trivial
theorem ZW (o:Obj):z4 P Any (newObj o):=fun _=>trivial
theorem ZX (a:Addr):z4 P Any (frozen a):=fun _=>trivial
theorem Z4 (q:Question):z4 P Any (choose q):=fun _=>trivial
theorem OZ (m:Mark)(h:Gn m):z4 P Any (mark m):=⟨h,trivial⟩
theorem zf:z4 P Any (mark .noRoom):=⟨⟨by simp,by simp⟩,trivial⟩
theorem zN:z4 P Any (program:Sem Program):=trivial
end
theorem zq {P:Program}:(∀a6,z4 P Any (askRoom a6))∧
  (∀r,z4 P Any (viewAt r))∧
  (∀r,z4 P Any (numberAt r))∧
  (∀r,z4 P Any (cellsIn r))∧
  (∀a a8,z4 P Any (asNumber a a8))∧
  (∀a,z4 P Any (markStringish a))∧
  (∀a,z4 P Any (stringish a))∧
  (∀t,z4 P Any (typeInfo t))∧
  (∀t,z4 P Any (underlying t))∧
  (∀name,z4 P Any (cutType name))∧
  (∀name,z4 P Any (globalAddr name))∧
  (∀a7 a1,z4 P Any (newRow a7 a1))∧
  (∀{α:Type} (b0:String),z4 P Any (Go.panicString b0:Sem α))∧
  (∀y1,z4 P Any (asIntOf y1))∧
  (∀y1,z4 P Any (asBool y1))∧
  (∀y1,z4 P Any (asString y1))∧
  (∀y1,z4 P Any (asAgg y1))∧
  (∀a u n,z4 P Any (variablesAt a u n))∧
  (∀k a n,z4 P Any (intVariablesAt k a n))∧
  (∀op k x y,z4 P Any (Op.floatArith op k x y))∧
  (∀op k x y,z4 P Any (Op.floatCmp op k x y))∧
  (∀op k x y,z4 P Any (Op.intArith op k x y))∧
  (∀op k x y,z4 P Any (Op.intBits op k x y))∧
  (∀op x y,z4 P Any (Op.intCmp op x y))∧
  (∀op x y,z4 P Any (Op.stringOp op x y))∧
  (∀a9 a3 a4,z4 P Any (Conv.floatToFloat a9 a3 a4))∧
  (∀a9 a3 a4,z4 P Any (Conv.floatToInt a9 a3 a4))∧
  (∀a4 n,z4 P Any (Conv.intToFloat a4 n))∧
  (∀a4 n,z4 P Any (Conv.intToInt a4 n))∧
  (∀n,z4 P Any (Conv.intToString n))∧
  (∀a a1,z4 P Any (Builtin.holdsCells a a1))∧
  (∀y1,z4 P Any (Builtin.lenOf y1))∧
  (∀y1,z4 P Any (Instr.sureAddr y1))∧
  (∀a5,z4 P Any (Instr.entry a5))∧
  (∀fn first a0,z4 P Any (Instr.makeFunc fn first a0))∧
  (∀b1 new,z4 P Any (Instr.keyThatStays b1 new))∧
  (∀a5 a2 _type,z4 P Any (Instr.next a5 a2 _type))∧
  (∀l,z4 P Any (Instr.getLoop l))∧
  (∀block,z4 P Any (Instr.takeDeferred block))∧
  (∀g,z4 P Any (Instr.waits g))∧
  (∀g,z4 P Any (Instr.ready g)):=by
 refine⟨?_,?_,?_,?_,?_,?_,?_,?_,?_,?_,?_,?_,?_,?_,?_,?_,?_,?_,?_,?_,?_,?_,?_,?_,?_,?_,?_,?_,?_,?_,?_,?_,?_,?_,?_,?_,?_,?_,?_,?_,?_⟩<;>intros<;>(first|unfold Go.askRoom|unfold Go.viewAt|unfold Go.numberAt|unfold Go.cellsIn|unfold Go.asNumber|unfold Go.markStringish|unfold Go.stringish|unfold Go.typeInfo|unfold Go.underlying|unfold Go.cutType|unfold Go.globalAddr|unfold Go.newRow|unfold Go.panicString|unfold Go.asIntOf|unfold Go.asBool|unfold Go.asString|unfold Go.asAgg|unfold Go.variablesAt|unfold Go.intVariablesAt|unfold Go.Op.floatArith|unfold Go.Op.floatCmp|unfold Go.Op.intArith|unfold Go.Op.intBits|unfold Go.Op.intCmp|unfold Go.Op.stringOp|unfold Go.Conv.floatToFloat|unfold Go.Conv.floatToInt|unfold Go.Conv.intToFloat|unfold Go.Conv.intToInt|unfold Go.Conv.intToString|unfold Go.Builtin.holdsCells|unfold Go.Builtin.lenOf|unfold Go.Instr.sureAddr|unfold Go.Instr.entry|unfold Go.Instr.makeFunc|unfold Go.Instr.keyThatStays|unfold Go.Instr.next|unfold Go.Instr.getLoop|unfold Go.Instr.takeDeferred|unfold Go.Instr.waits|unfold Go.Instr.ready)
 all_goals
  repeat' (first|exact trivial|exact fun _=>trivial|with_reducible (first|assumption|exact zf|apply z4.bind0|apply z4.map0|apply z4.forInArray|apply z4.forInRange|apply z4.forInList|apply z4.mapMArray|apply z4.mapMList|apply z4.foldlMList|apply z4.forInRange' |apply z4.ite|intro _)|split|dsimp only)
theorem vu {P}(bytes):z4 P Any (askRoom bytes):=zq.1 _
theorem xF {P}(r):z4 P Any (viewAt r):=zq.2.1 _
theorem Qc {P}(r):z4 P Any (numberAt r):=zq.2.2.1 _
theorem Jk {P}(r):z4 P Any (cellsIn r):=zq.2.2.2.1 _
theorem Qe {P}(a)(lost):z4 P Any (asNumber a lost):=zq.2.2.2.2.1 _ _
theorem yv {P}(a):z4 P Any (markStringish a):=zq.2.2.2.2.2.1 _
theorem Kp {P}(a):z4 P Any (stringish a):=zq.2.2.2.2.2.2.1 _
theorem zX {P}(t):z4 P Any (typeInfo t):=zq.2.2.2.2.2.2.2.1 _
theorem zi {P}(t):z4 P Any (underlying t):=zq.2.2.2.2.2.2.2.2.1 _
theorem kz {P}(name):z4 P Any (globalAddr name):=zq.2.2.2.2.2.2.2.2.2.2.1 _
theorem Yr {P}(elem)(cells):z4 P Any (newRow elem cells):=zq.2.2.2.2.2.2.2.2.2.2.2.1 _ _
theorem XH {P}(y1):z4 P Any (asIntOf y1):=zq.2.2.2.2.2.2.2.2.2.2.2.2.2.1 _
theorem ke {P}(y1):z4 P Any (asBool y1):=zq.2.2.2.2.2.2.2.2.2.2.2.2.2.2.1 _
theorem Yg {P}(y1):z4 P Any (asString y1):=zq.2.2.2.2.2.2.2.2.2.2.2.2.2.2.2.1 _
theorem Ks {P}(y1):z4 P Any (asAgg y1):=zq.2.2.2.2.2.2.2.2.2.2.2.2.2.2.2.2.1 _
theorem Y3 {P}(a)(u)(n):z4 P Any (variablesAt a u n):=zq.2.2.2.2.2.2.2.2.2.2.2.2.2.2.2.2.2.1 _ _ _
theorem qY {P}(k)(a)(n):z4 P Any (intVariablesAt k a n):=zq.2.2.2.2.2.2.2.2.2.2.2.2.2.2.2.2.2.2.1 _ _ _
theorem xf {P}(op)(k)(x)(y):z4 P Any (Op.floatArith op k x y):=zq.2.2.2.2.2.2.2.2.2.2.2.2.2.2.2.2.2.2.2.1 _ _ _ _
theorem X6 {P}(op)(k)(x)(y):z4 P Any (Op.floatCmp op k x y):=zq.2.2.2.2.2.2.2.2.2.2.2.2.2.2.2.2.2.2.2.2.1 _ _ _ _
theorem Ku {P}(op)(x)(y):z4 P Any (Op.intCmp op x y):=zq.2.2.2.2.2.2.2.2.2.2.2.2.2.2.2.2.2.2.2.2.2.2.2.1 _ _ _
theorem X5 {P}(op)(x)(y):z4 P Any (Op.stringOp op x y):=zq.2.2.2.2.2.2.2.2.2.2.2.2.2.2.2.2.2.2.2.2.2.2.2.2.1 _ _ _
theorem yN {P}(src)(bits)(dst):z4 P Any (Conv.floatToFloat src bits dst):=zq.2.2.2.2.2.2.2.2.2.2.2.2.2.2.2.2.2.2.2.2.2.2.2.2.2.1 _ _ _
theorem qr {P}(src)(bits)(dst):z4 P Any (Conv.floatToInt src bits dst):=zq.2.2.2.2.2.2.2.2.2.2.2.2.2.2.2.2.2.2.2.2.2.2.2.2.2.2.1 _ _ _
theorem Xg {P}(a)(cells):z4 P Any (Builtin.holdsCells a cells):=zq.2.2.2.2.2.2.2.2.2.2.2.2.2.2.2.2.2.2.2.2.2.2.2.2.2.2.2.2.2.2.1 _ _
theorem QG {P}(y1):z4 P Any (Builtin.lenOf y1):=zq.2.2.2.2.2.2.2.2.2.2.2.2.2.2.2.2.2.2.2.2.2.2.2.2.2.2.2.2.2.2.2.1 _
theorem yf {P}(y1):z4 P Any (Instr.sureAddr y1):=zq.2.2.2.2.2.2.2.2.2.2.2.2.2.2.2.2.2.2.2.2.2.2.2.2.2.2.2.2.2.2.2.2.1 _
theorem Vs {P}(iter):z4 P Any (Instr.entry iter):=zq.2.2.2.2.2.2.2.2.2.2.2.2.2.2.2.2.2.2.2.2.2.2.2.2.2.2.2.2.2.2.2.2.2.1 _
theorem Q0 {P}(fn)(first)(captured):z4 P Any (Instr.makeFunc fn first captured):=zq.2.2.2.2.2.2.2.2.2.2.2.2.2.2.2.2.2.2.2.2.2.2.2.2.2.2.2.2.2.2.2.2.2.2.1 _ _ _
theorem X9 {P}(old)(new):z4 P Any (Instr.keyThatStays old new):=zq.2.2.2.2.2.2.2.2.2.2.2.2.2.2.2.2.2.2.2.2.2.2.2.2.2.2.2.2.2.2.2.2.2.2.2.1 _ _
theorem kE {P}(iter)(isString)(_type):z4 P Any (Instr.next iter isString _type):=zq.2.2.2.2.2.2.2.2.2.2.2.2.2.2.2.2.2.2.2.2.2.2.2.2.2.2.2.2.2.2.2.2.2.2.2.2.1 _ _ _
theorem yx {P}(l):z4 P Any (Instr.getLoop l):=zq.2.2.2.2.2.2.2.2.2.2.2.2.2.2.2.2.2.2.2.2.2.2.2.2.2.2.2.2.2.2.2.2.2.2.2.2.2.1 _
theorem yE {P}(block):z4 P Any (Instr.takeDeferred block):=zq.2.2.2.2.2.2.2.2.2.2.2.2.2.2.2.2.2.2.2.2.2.2.2.2.2.2.2.2.2.2.2.2.2.2.2.2.2.2.1 _
theorem Vo {P}(g):z4 P Any (Instr.waits g):=zq.2.2.2.2.2.2.2.2.2.2.2.2.2.2.2.2.2.2.2.2.2.2.2.2.2.2.2.2.2.2.2.2.2.2.2.2.2.2.2.1 _
theorem Vq {P}(g):z4 P Any (Instr.ready g):=zq.2.2.2.2.2.2.2.2.2.2.2.2.2.2.2.2.2.2.2.2.2.2.2.2.2.2.2.2.2.2.2.2.2.2.2.2.2.2.2.2 _
theorem Qw {P:Program}(a:Addr)(i:Nat)(y1:Nat)(y2:Array Value):z4 P Any (Go.loadCellsFrom a i y1 y2):=by
 induction y1 generalizing i y2 with
 |zero=> ?_
 |succ n ih=> ?_
 all_goals
  unfold Go.loadCellsFrom;repeat' (first|exact trivial|exact fun _=>trivial|with_reducible (first|assumption|exact zf|exact ih _ _|apply z4.bind0|apply z4.map0|apply z4.forInArray|apply z4.forInRange|apply z4.forInList|apply z4.mapMArray|apply z4.mapMList|apply z4.foldlMList|apply z4.forInRange' |apply z4.ite|intro _)|split|dsimp only)
theorem YH {P:Program}(a:Addr)(vs:List Value)(i:Nat):z4 P Any (Go.storeCells a vs i):=by
 induction vs generalizing i with
 |nil=> ?_
 |cons x l ih=> ?_
 all_goals
  unfold Go.storeCells;repeat' (first|exact trivial|exact fun _=>trivial|with_reducible (first|assumption|exact zf|exact ih _|apply z4.bind0|apply z4.map0|apply z4.forInArray|apply z4.forInRange|apply z4.forInList|apply z4.mapMArray|apply z4.mapMList|apply z4.foldlMList|apply z4.forInRange' |apply z4.ite|intro _)|split|dsimp only)
theorem Kr {P:Program}(a:Addr)(a0:ByteArray)(y1:Nat):z4 P Any (Go.loadBytes a a0 y1):=by
 induction y1 generalizing a a0 with
 |zero=> ?_
 |succ n ih=> ?_
 all_goals
  unfold Go.loadBytes;repeat' (first|exact trivial|exact fun _=>trivial|with_reducible (first|assumption|exact zf|exact ih _ _|apply z4.bind0|apply z4.map0|apply z4.forInArray|apply z4.forInRange|apply z4.forInList|apply z4.mapMArray|apply z4.mapMList|apply z4.foldlMList|apply z4.forInRange' |apply z4.ite|intro _)|split|dsimp only)
theorem qb {P:Program}(_argTypes:Array TypeId)(_type:TypeId)(args:Array Value):z4 P Any (Go.Builtin.complex_ _argTypes _type args):=by
 unfold Go.Builtin.complex_;obtain⟨l⟩:=args;rcases l with _|⟨a,_|⟨b,_|⟨c,l⟩⟩⟩
 ·exact trivial
 ·exact trivial
 ·cases a<;>first|exact trivial|(cases b<;>first|exact trivial|exact z4.ite (fun _=>trivial) (fun _=>trivial))
 ·exact trivial
theorem QH {P:Program}(_argTypes:Array TypeId)(_type:TypeId)(args:Array Value):z4 P Any (Go.Builtin.imag_ _argTypes _type args):=by
 unfold Go.Builtin.imag_;obtain⟨l⟩:=args;rcases l with _|⟨a,_|⟨b,_|⟨c,_|⟨d,l⟩⟩⟩⟩
 all_goals first
  |exact trivial
  |(cases a<;>first|exact trivial|skip)
 all_goals(try rename_i o;cases o)
 all_goals try(first|exact trivial|refine z4.bind0 ?_ (fun _=> ?_)|refine z4.ite (fun _=> ?_) (fun _=> ?_))
 all_goals
  repeat' (first|exact trivial|exact fun _=>trivial|with_reducible (first|assumption|exact zf|apply z4.bind0|apply z4.map0|apply z4.forInArray|apply z4.forInRange|apply z4.forInList|apply z4.mapMArray|apply z4.mapMList|apply z4.foldlMList|apply z4.forInRange' |apply z4.ite|intro _)|split|dsimp only)
theorem QF {P:Program}(_argTypes:Array TypeId)(_type:TypeId)(args:Array Value):z4 P Any (Go.Builtin.real_ _argTypes _type args):=by
 unfold Go.Builtin.real_;obtain⟨l⟩:=args;rcases l with _|⟨a,_|⟨b,_|⟨c,_|⟨d,l⟩⟩⟩⟩
 all_goals first
  |exact trivial
  |(cases a<;>first|exact trivial|skip)
 all_goals(try rename_i o;cases o)
 all_goals try(first|exact trivial|refine z4.bind0 ?_ (fun _=> ?_)|refine z4.ite (fun _=> ?_) (fun _=> ?_))
 all_goals
  repeat' (first|exact trivial|exact fun _=>trivial|with_reducible (first|assumption|exact zf|apply z4.bind0|apply z4.map0|apply z4.forInArray|apply z4.forInRange|apply z4.forInList|apply z4.mapMArray|apply z4.mapMList|apply z4.foldlMList|apply z4.forInRange' |apply z4.ite|intro _)|split|dsimp only)
theorem qZ {P:Program}:z4 P Any (Go.Instr.panicnil):=by
 unfold Go.Instr.panicnil;refine⟨⟨_,rfl,trivial⟩,fun r=> ?_⟩
 cases r<;>exact trivial
theorem zB {P:Program}:(∀n,z4 P Any (behindNumber n))∧
  (∀a,z4 P Any (noView a))∧
  (∀a b,z4 P Any (mayBeOne a b))∧
  (∀t,z4 P Any (typeStr t))∧
  (∀t,z4 P Any (zeroValue t))∧
  (∀t,z4 P Any (sizeOf t))∧
  (∀t,z4 P Any (isAgg t))∧
  (∀a n,z4 P Any (loadCells a n))∧
  (∀t v,z4 P Any (newVar t v))∧
  (∀t,z4 P Any (elemOf t))∧
  (∀v,z4 P Any (asInt v))∧
  (∀a n,z4 P Any (byteVariablesAt a n))∧
  (∀a b,z4 P Any (storeBytes a b))∧
  (∀op x,z4 P Any (Op.unary op x))∧
  (∀a3 s,z4 P Any (Conv.stringToBytes a3 s))∧
  (∀a3 s,z4 P Any (Conv.stringToRunes a3 s))∧
  (∀a,z4 P Any (Conv.seenAt a))∧
  (∀size a8 n base x,z4 P Any (Builtin.mayShare size a8 n base x))∧
  (∀argTypes _type args,z4 P Any (Builtin.cap_ argTypes _type args))∧
  (∀argTypes _type args,z4 P Any (Builtin.len_ argTypes _type args))∧
  (∀y1 y2,z4 P Any (Builtin.max2 y1 y2))∧
  (∀y1 y2,z4 P Any (Builtin.min2 y1 y2))∧
  (∀t v,z4 P Any (Builtin.printOne t v))∧
  (∀a0 x,z4 P Any (Instr.makeInterface a0 x))∧
  (∀a0 x,z4 P Any (Instr.range a0 x))∧
  (∀fn tmps a4 a2 a5 a1,z4 P Any (Instr.enterLoop fn tmps a4 a2 a5 a1))∧
  (∀l args,z4 P Any (Instr.yield l args))∧
  (∀l a7,z4 P Any (Instr.endRound l a7))∧
  (∀l d,z4 P Any (Instr.deferInRound l d))∧
  (∀op k x y,z4 P Any (Op.Complex.arith op k x y))∧
  (∀op k x y,z4 P Any (Op.Complex.cmp op k x y))∧
  (∀a9 x a6,z4 P Any (Op.Complex.conv a9 x a6))∧
  (∀a9 re im a6,z4 P Any (Conv.complexToComplex a9 re im a6)):=by
 refine⟨?_,?_,?_,?_,?_,?_,?_,?_,?_,?_,?_,?_,?_,?_,?_,?_,?_,?_,?_,?_,?_,?_,?_,?_,?_,?_,?_,?_,?_,?_,?_,?_,?_⟩<;>intros<;>(first|unfold Go.behindNumber|unfold Go.noView|unfold Go.mayBeOne|unfold Go.typeStr|unfold Go.zeroValue|unfold Go.sizeOf|unfold Go.isAgg|unfold Go.loadCells|unfold Go.newVar|unfold Go.elemOf|unfold Go.asInt|unfold Go.byteVariablesAt|unfold Go.storeBytes|unfold Go.Op.unary|unfold Go.Conv.stringToBytes|unfold Go.Conv.stringToRunes|unfold Go.Conv.seenAt|unfold Go.Builtin.mayShare|unfold Go.Builtin.cap_|unfold Go.Builtin.len_|unfold Go.Builtin.max2|unfold Go.Builtin.min2|unfold Go.Builtin.printOne|unfold Go.Instr.makeInterface|unfold Go.Instr.range|unfold Go.Instr.enterLoop|unfold Go.Instr.yield|unfold Go.Instr.endRound|unfold Go.Instr.deferInRound|unfold Go.Op.Complex.arith|unfold Go.Op.Complex.cmp|unfold Go.Op.Complex.conv|unfold Go.Conv.complexToComplex)
 all_goals
  repeat' (first|exact trivial|exact fun _=>trivial|with_reducible (first|assumption|exact zf|exact(Qc _)|exact(xF _)|exact(Kp _)|exact(zX _)|exact(zi _)|exact(Qw _ _ _ _)|exact(Yr _ _)|exact(XH _)|exact(qY _ _ _)|exact(YH _ _ _)|exact(mild_Op_intArith _ _ _ _)|exact(mild_Op_intBits _ _ _ _)|exact(yv _)|exact(Xg _ _)|exact(X5 _ _ _)|exact(ke _)|exact(yx _)|exact(xf _ _ _ _)|exact(X6 _ _ _ _)|exact(yN _ _ _)|apply z4.bind0|apply z4.map0|apply z4.forInArray|apply z4.forInRange|apply z4.forInList|apply z4.mapMArray|apply z4.mapMList|apply z4.foldlMList|apply z4.forInRange' |apply z4.ite|intro _)|split|dsimp only)
theorem ZN {P}(n):z4 P Any (behindNumber n):=zB.1 _
theorem ka {P}(a):z4 P Any (noView a):=zB.2.1 _
theorem Qd {P}(a)(b):z4 P Any (mayBeOne a b):=zB.2.2.1 _ _
theorem XF {P}(t):z4 P Any (typeStr t):=zB.2.2.2.1 _
theorem ZV {P}(t):z4 P Any (zeroValue t):=zB.2.2.2.2.1 _
theorem Za {P}(t):z4 P Any (sizeOf t):=zB.2.2.2.2.2.1 _
theorem oq {P}(t):z4 P Any (isAgg t):=zB.2.2.2.2.2.2.1 _
theorem Kq {P}(a)(n):z4 P Any (loadCells a n):=zB.2.2.2.2.2.2.2.1 _ _
theorem xG {P}(t)(v):z4 P Any (newVar t v):=zB.2.2.2.2.2.2.2.2.1 _ _
theorem ZY {P}(t):z4 P Any (elemOf t):=zB.2.2.2.2.2.2.2.2.2.1 _
theorem yw {P}(v):z4 P Any (asInt v):=zB.2.2.2.2.2.2.2.2.2.2.1 _
theorem j2 {P}(op)(x):z4 P Any (Op.unary op x):=zB.2.2.2.2.2.2.2.2.2.2.2.2.2.1 _ _
theorem Xd {P}(elem)(s):z4 P Any (Conv.stringToBytes elem s):=zB.2.2.2.2.2.2.2.2.2.2.2.2.2.2.1 _ _
theorem Xc {P}(elem)(s):z4 P Any (Conv.stringToRunes elem s):=zB.2.2.2.2.2.2.2.2.2.2.2.2.2.2.2.1 _ _
theorem Vv {P}(a):z4 P Any (Conv.seenAt a):=zB.2.2.2.2.2.2.2.2.2.2.2.2.2.2.2.2.1 _
theorem qa {P}(size)(sLen)(n)(base)(x):z4 P Any (Builtin.mayShare size sLen n base x):=zB.2.2.2.2.2.2.2.2.2.2.2.2.2.2.2.2.2.1 _ _ _ _ _
theorem vE {P}(argTypes)(_type)(args):z4 P Any (Builtin.cap_ argTypes _type args):=zB.2.2.2.2.2.2.2.2.2.2.2.2.2.2.2.2.2.2.1 _ _ _
theorem ZO {P}(argTypes)(_type)(args):z4 P Any (Builtin.len_ argTypes _type args):=zB.2.2.2.2.2.2.2.2.2.2.2.2.2.2.2.2.2.2.2.1 _ _ _
theorem vD {P}(y1)(y2):z4 P Any (Builtin.max2 y1 y2):=zB.2.2.2.2.2.2.2.2.2.2.2.2.2.2.2.2.2.2.2.2.1 _ _
theorem vB {P}(y1)(y2):z4 P Any (Builtin.min2 y1 y2):=zB.2.2.2.2.2.2.2.2.2.2.2.2.2.2.2.2.2.2.2.2.2.1 _ _
theorem q9 {P}(t)(v):z4 P Any (Builtin.printOne t v):=zB.2.2.2.2.2.2.2.2.2.2.2.2.2.2.2.2.2.2.2.2.2.2.1 _ _
theorem xP {P}(xType)(x):z4 P Any (Instr.makeInterface xType x):=zB.2.2.2.2.2.2.2.2.2.2.2.2.2.2.2.2.2.2.2.2.2.2.2.1 _ _
theorem Vr {P}(xType)(x):z4 P Any (Instr.range xType x):=zB.2.2.2.2.2.2.2.2.2.2.2.2.2.2.2.2.2.2.2.2.2.2.2.2.1 _ _
theorem Yu {P}(fn)(tmps)(params)(assign)(body)(around):z4 P Any (Instr.enterLoop fn tmps params assign body around):=zB.2.2.2.2.2.2.2.2.2.2.2.2.2.2.2.2.2.2.2.2.2.2.2.2.2.1 _ _ _ _ _ _
theorem YQ {P}(l)(jump):z4 P Any (Instr.endRound l jump):=zB.2.2.2.2.2.2.2.2.2.2.2.2.2.2.2.2.2.2.2.2.2.2.2.2.2.2.2.1 _ _
theorem yF {P}(l)(d):z4 P Any (Instr.deferInRound l d):=zB.2.2.2.2.2.2.2.2.2.2.2.2.2.2.2.2.2.2.2.2.2.2.2.2.2.2.2.2.1 _ _
theorem zO {P}(op)(k)(x)(y):z4 P Any (Op.Complex.arith op k x y):=zB.2.2.2.2.2.2.2.2.2.2.2.2.2.2.2.2.2.2.2.2.2.2.2.2.2.2.2.2.2.1 _ _ _ _
theorem qp {P}(src)(x)(dst):z4 P Any (Op.Complex.conv src x dst):=zB.2.2.2.2.2.2.2.2.2.2.2.2.2.2.2.2.2.2.2.2.2.2.2.2.2.2.2.2.2.2.2.1 _ _ _
theorem xh {P}(src)(re)(im)(dst):z4 P Any (Conv.complexToComplex src re im dst):=zB.2.2.2.2.2.2.2.2.2.2.2.2.2.2.2.2.2.2.2.2.2.2.2.2.2.2.2.2.2.2.2.2 _ _ _ _
theorem Z1 {P:Program}:(∀n,z4 P Any (backFromNumber n))∧
  (∀a b,z4 P Any (sameAddr a b))∧
  (∀t a,z4 P Any (loadVar t a))∧
  (∀t a v,z4 P Any (storeVar t a v))∧
  (∀t cs off,z4 P Any (part t cs off))∧
  (∀{α:Type} (e:RuntimeError),z4 P Any (Go.runtimePanic e:Sem α))∧
  (∀a,z4 P Any (byteOf a))∧
  (∀x,z4 P Any (Conv.bytesToString x))∧
  (∀x,z4 P Any (Conv.runesToString x))∧
  (∀a7 a5 x,z4 P Any (Conv.unsafePointer a7 a5 x))∧
  (∀size n y1,z4 P Any (Builtin.firstCells size n y1))∧
  (∀argTypes _type args,z4 P Any (Builtin.clear_ argTypes _type args))∧
  (∀_argTypes _type args,z4 P Any (Builtin.max_ _argTypes _type args))∧
  (∀_argTypes _type args,z4 P Any (Builtin.min_ _argTypes _type args))∧
  (∀ln a2 argTypes args,z4 P Any (Builtin.pieces ln a2 argTypes args))∧
  (∀a4 v,z4 P Any (Instr.box a4 v))∧
  (∀t a0,z4 P Any (Instr.build t a0))∧
  (∀t a6 a0,z4 P Any (Instr.buildSlice t a6 a0))∧
  (∀t a1,z4 P Any (Instr.makeMap t a1))∧
  (∀_mapType map a3 value,z4 P Any (Instr.entryStore _mapType map a3 value)):=by
 refine⟨?_,?_,?_,?_,?_,?_,?_,?_,?_,?_,?_,?_,?_,?_,?_,?_,?_,?_,?_,?_⟩<;>intros<;>(first|unfold Go.backFromNumber|unfold Go.sameAddr|unfold Go.loadVar|unfold Go.storeVar|unfold Go.part|unfold Go.runtimePanic|unfold Go.byteOf|unfold Go.Conv.bytesToString|unfold Go.Conv.runesToString|unfold Go.Conv.unsafePointer|unfold Go.Builtin.firstCells|unfold Go.Builtin.clear_|unfold Go.Builtin.max_|unfold Go.Builtin.min_|unfold Go.Builtin.pieces|unfold Go.Instr.box|unfold Go.Instr.build|unfold Go.Instr.buildSlice|unfold Go.Instr.makeMap|unfold Go.Instr.entryStore)
 all_goals
  repeat' (first|exact trivial|exact fun _=>trivial|with_reducible (first|assumption|exact zf|exact(ZN _)|exact(Qd _ _)|exact(ka _)|exact(oq _)|exact(Kq _ _)|exact(Za _)|exact(YH _ _ _)|exact(ZY _)|exact(xG _ _)|exact(Vv _)|exact(Qe _ _)|exact(Jk _)|exact(zi _)|exact(Y3 _ _ _)|exact(ZV _)|exact(vD _ _)|exact(vB _ _)|exact(q9 _ _)|exact(Yr _ _)|exact(yw _)|apply z4.bind0|apply z4.map0|apply z4.forInArray|apply z4.forInRange|apply z4.forInList|apply z4.mapMArray|apply z4.mapMList|apply z4.foldlMList|apply z4.forInRange' |apply z4.ite|intro _)|split|dsimp only)
theorem Qb {P}(a)(b):z4 P Any (sameAddr a b):=Z1.2.1 _ _
theorem XG {P}(t)(a):z4 P Any (loadVar t a):=Z1.2.2.1 _ _
theorem j0 {P}(t)(a)(v):z4 P Any (storeVar t a v):=Z1.2.2.2.1 _ _ _
theorem Y4 {P}(t)(cs)(off):z4 P Any (part t cs off):=Z1.2.2.2.2.1 _ _ _
theorem zx {P:Program}{α:Type}(e:RuntimeError):z4 P Any (Go.runtimePanic e:Sem α):=Z1.2.2.2.2.2.1 _
theorem kd {P}(a):z4 P Any (byteOf a):=Z1.2.2.2.2.2.2.1 _
theorem Xf {P}(x):z4 P Any (Conv.bytesToString x):=Z1.2.2.2.2.2.2.2.1 _
theorem Xe {P}(x):z4 P Any (Conv.runesToString x):=Z1.2.2.2.2.2.2.2.2.1 _
theorem Xb {P}(src)(dst)(x):z4 P Any (Conv.unsafePointer src dst x):=Z1.2.2.2.2.2.2.2.2.2.1 _ _ _
theorem Xh {P}(size)(n)(y1):z4 P Any (Builtin.firstCells size n y1):=Z1.2.2.2.2.2.2.2.2.2.2.1 _ _ _
theorem Q5 {P}(argTypes)(_type)(args):z4 P Any (Builtin.clear_ argTypes _type args):=Z1.2.2.2.2.2.2.2.2.2.2.2.1 _ _ _
theorem vC {P}(_argTypes)(_type)(args):z4 P Any (Builtin.max_ _argTypes _type args):=Z1.2.2.2.2.2.2.2.2.2.2.2.2.1 _ _ _
theorem vA {P}(_argTypes)(_type)(args):z4 P Any (Builtin.min_ _argTypes _type args):=Z1.2.2.2.2.2.2.2.2.2.2.2.2.2.1 _ _ _
theorem Q3 {P}(ln)(consts)(argTypes)(args):z4 P Any (Builtin.pieces ln consts argTypes args):=Z1.2.2.2.2.2.2.2.2.2.2.2.2.2.2.1 _ _ _ _
theorem Kv {P}(elem)(v):z4 P Any (Instr.box elem v):=Z1.2.2.2.2.2.2.2.2.2.2.2.2.2.2.2.1 _ _
theorem Vt {P}(t)(parts):z4 P Any (Instr.build t parts):=Z1.2.2.2.2.2.2.2.2.2.2.2.2.2.2.2.2.1 _ _
theorem q8 {P}(t)(len)(parts):z4 P Any (Instr.buildSlice t len parts):=Z1.2.2.2.2.2.2.2.2.2.2.2.2.2.2.2.2.2.1 _ _ _
theorem Qz {P}(t)(reserve):z4 P Any (Instr.makeMap t reserve):=Z1.2.2.2.2.2.2.2.2.2.2.2.2.2.2.2.2.2.2.1 _ _
theorem X_ {P}(_mapType)(map)(stamp)(value):z4 P Any (Instr.entryStore _mapType map stamp value):=Z1.2.2.2.2.2.2.2.2.2.2.2.2.2.2.2.2.2.2.2 _ _ _ _
theorem Zw {P:Program}(_argTypes:Array TypeId)(_type:TypeId)(args:Array Value):z4 P Any (Go.Builtin.unsafeAdd_ _argTypes _type args):=by
 unfold Go.Builtin.unsafeAdd_;obtain⟨l⟩:=args;rcases l with _|⟨a,_|⟨b,_|⟨c,_|⟨d,l⟩⟩⟩⟩
 all_goals first
  |exact trivial
  |(cases a<;>first|exact trivial|skip)
 all_goals(try rename_i o;cases o)
 all_goals try(first|exact trivial|refine z4.bind0 ?_ (fun _=> ?_)|refine z4.ite (fun _=> ?_) (fun _=> ?_))
 all_goals
  repeat' (first|exact trivial|exact fun _=>trivial|with_reducible (first|assumption|exact zf|exact(ZO _ _ _)|exact(yw _)|exact(xF _)|apply z4.bind0|apply z4.map0|apply z4.forInArray|apply z4.forInRange|apply z4.forInList|apply z4.mapMArray|apply z4.mapMList|apply z4.foldlMList|apply z4.forInRange' |apply z4.ite|intro _)|split|dsimp only)
theorem Yv {P:Program}(_argTypes:Array TypeId)(a0:TypeId)(args:Array Value):z4 P Any (Go.Builtin.unsafeSliceData_ _argTypes a0 args):=by
 unfold Go.Builtin.unsafeSliceData_;obtain⟨l⟩:=args;rcases l with _|⟨a,_|⟨b,l⟩⟩
 ·exact trivial
 ·cases a with
  |slice base n c=>
   cases base with
   |none=>exact trivial
   |some a=>
    refine z4.ite (fun _=>trivial) (fun _=> ?_);refine z4.bind0 (xF _) (fun _=>z4.ite (fun _=>trivial) (fun _=> ?_));exact z4.bind0 (ZY _) fun _=>z4.bind0 (ZW _) fun _=>trivial
  |_=>exact trivial
 ·exact trivial
theorem Y6 {P:Program}(_argTypes:Array TypeId)(a0:TypeId)(args:Array Value):z4 P Any (Go.Builtin.unsafeStringData_ _argTypes a0 args):=by
 unfold Go.Builtin.unsafeStringData_;obtain⟨l⟩:=args;rcases l with _|⟨a,_|⟨b,_|⟨c,_|⟨d,l⟩⟩⟩⟩
 all_goals first
  |exact trivial
  |(cases a<;>first|exact trivial|skip)
 all_goals(try rename_i o;cases o)
 all_goals try(first|exact trivial|refine z4.bind0 ?_ (fun _=> ?_)|refine z4.ite (fun _=> ?_) (fun _=> ?_))
 all_goals
  repeat' (first|exact trivial|exact fun _=>trivial|with_reducible (first|assumption|exact zf|exact(ZY _)|exact(yv _)|exact(Yr _ _)|apply z4.bind0|apply z4.map0|apply z4.forInArray|apply z4.forInRange|apply z4.forInList|apply z4.mapMArray|apply z4.mapMList|apply z4.foldlMList|apply z4.forInRange' |apply z4.ite|intro _)|split|dsimp only)
theorem YP {P:Program}(x y:Nat):z4 P Any (Go.Op.Complex.add x y):=zO _ _ _ _
theorem YM {P:Program}(x y:Nat):z4 P Any (Go.Op.Complex.sub x y):=zO _ _ _ _
theorem YO {P:Program}(x y:Nat):z4 P Any (Go.Op.Complex.mul x y):=zO _ _ _ _
theorem YN {P:Program}(x y:Nat):z4 P Any (Go.Op.Complex.quo x y):=zO _ _ _ _
theorem zP {P:Program}:(∀y1 y2,z4 P Any (samePointer y1 y2))∧
  (∀{α:Type} (k:IntKind) (x y:Int) (a8:BoundsCode),z4 P Any (Go.boundsPanic k x y a8:Sem α))∧
  (∀y1,z4 P Any (asAddr y1))∧
  (∀base a5 a4,z4 P Any (partAt base a5 a4))∧
  (∀a b,z4 P Any (Op.twoPlaces a b))∧
  (∀k a n,z4 P Any (Op.addrMod k a n))∧
  (∀op k x y,z4 P Any (Op.intDiv op k x y))∧
  (∀op k x _yk y,z4 P Any (Op.shift op k x _yk y))∧
  (∀argTypes _type args,z4 P Any (Builtin.append_ argTypes _type args))∧
  (∀argTypes _type args,z4 P Any (Builtin.copy_ argTypes _type args))∧
  (∀t a3,z4 P Any (Instr.loadAt t a3))∧
  (∀t a3 val,z4 P Any (Instr.storeAt t a3 val))∧
  (∀b0 x,z4 P Any (Instr.arrayAt b0 x))∧
  (∀a9 heap b2,z4 P Any (Instr.alloc a9 heap b2))∧
  (∀a1 x a6,z4 P Any (Instr.field a1 x a6))∧
  (∀t size,z4 P Any (Instr.makeChan t size))∧
  (∀t b1 cap,z4 P Any (Instr.makeSlice t b1 cap))∧
  (∀t y1,z4 P Any (Place.get t y1))∧
  (∀x,z4 P Any (Instr.panic x))∧
  (∀l,z4 P Any (Instr.beginRound l))∧
  (∀l,z4 P Any (Instr.endLoop l))∧
  (∀x a1 a0 a2,z4 P Any (Instr.typeAssert x a1 a0 a2))∧
  (∀a b c d,z4 P Any (Op.Complex.product a b c d))∧
  (∀a7 a b c d,z4 P Any (Op.Complex.corrected a7 a b c d)):=by
 refine⟨?_,?_,?_,?_,?_,?_,?_,?_,?_,?_,?_,?_,?_,?_,?_,?_,?_,?_,?_,?_,?_,?_,?_,?_⟩<;>intros<;>(first|unfold Go.samePointer|unfold Go.boundsPanic|unfold Go.asAddr|unfold Go.partAt|unfold Go.Op.twoPlaces|unfold Go.Op.addrMod|unfold Go.Op.intDiv|unfold Go.Op.shift|unfold Go.Builtin.append_|unfold Go.Builtin.copy_|unfold Go.Instr.loadAt|unfold Go.Instr.storeAt|unfold Go.Instr.arrayAt|unfold Go.Instr.alloc|unfold Go.Instr.field|unfold Go.Instr.makeChan|unfold Go.Instr.makeSlice|unfold Go.Place.get|unfold Go.Instr.panic|unfold Go.Instr.beginRound|unfold Go.Instr.endLoop|unfold Go.Instr.typeAssert|unfold Go.Op.Complex.product|unfold Go.Op.Complex.corrected)
 all_goals
  repeat' (first|exact trivial|exact fun _=>trivial|with_reducible (first|assumption|exact zf|exact(Qb _ _)|exact(zx _)|exact(kd _)|exact(zX _)|exact(Xh _ _ _)|exact(QG _)|exact(qa _ _ _ _ _)|exact(yw _)|exact(vu _)|exact(Yr _ _)|exact(Za _)|exact(YH _ _ _)|exact(zi _)|exact(ZV _)|exact(yf _)|exact(XG _ _)|exact(j0 _ _ _)|exact(xG _ _)|exact(Ks _)|exact(Y4 _ _ _)|exact(qZ)|exact(yx _)|exact(zO _ _ _ _)|exact(YP _ _)|exact(YM _ _)|exact(YO _ _)|exact(YN _ _)|apply z4.bind0|apply z4.map0|apply z4.forInArray|apply z4.forInRange|apply z4.forInList|apply z4.mapMArray|apply z4.mapMList|apply z4.foldlMList|apply z4.forInRange' |apply z4.ite|intro _)|split|dsimp only)
theorem Vk {P}(y1)(y2):z4 P Any (samePointer y1 y2):=zP.1 _ _
theorem X4 {P:Program}{α:Type}(k:IntKind)(x y:Int)(a0:BoundsCode):z4 P Any (Go.boundsPanic k x y a0:Sem α):=zP.2.1 _ _ _ _
theorem Ys {P}(y1):z4 P Any (asAddr y1):=zP.2.2.1 _
theorem uC {P}(base)(cells)(bytes):z4 P Any (partAt base cells bytes):=zP.2.2.2.1 _ _ _
theorem vv {P}(a)(b):z4 P Any (Op.twoPlaces a b):=zP.2.2.2.2.1 _ _
theorem kC {P}(k)(a)(n):z4 P Any (Op.addrMod k a n):=zP.2.2.2.2.2.1 _ _ _
theorem Kt {P}(op)(k)(x)(y):z4 P Any (Op.intDiv op k x y):=zP.2.2.2.2.2.2.1 _ _ _ _
theorem j3 {P}(op)(k)(x)(_yk)(y):z4 P Any (Op.shift op k x _yk y):=zP.2.2.2.2.2.2.2.1 _ _ _ _ _
theorem qt {P}(argTypes)(_type)(args):z4 P Any (Builtin.append_ argTypes _type args):=zP.2.2.2.2.2.2.2.2.1 _ _ _
theorem QI {P}(argTypes)(_type)(args):z4 P Any (Builtin.copy_ argTypes _type args):=zP.2.2.2.2.2.2.2.2.2.1 _ _ _
theorem vz {P}(t)(addr):z4 P Any (Instr.loadAt t addr):=zP.2.2.2.2.2.2.2.2.2.2.1 _ _
theorem Qx {P}(t)(addr)(val):z4 P Any (Instr.storeAt t addr val):=zP.2.2.2.2.2.2.2.2.2.2.2.1 _ _ _
theorem QE {P}(arr)(x):z4 P Any (Instr.arrayAt arr x):=zP.2.2.2.2.2.2.2.2.2.2.2.2.1 _ _
theorem Vu {P}(elem)(heap)(old):z4 P Any (Instr.alloc elem heap old):=zP.2.2.2.2.2.2.2.2.2.2.2.2.2.1 _ _ _
theorem Xa {P}(xType)(x)(field):z4 P Any (Instr.field xType x field):=zP.2.2.2.2.2.2.2.2.2.2.2.2.2.2.1 _ _ _
theorem Q1 {P}(t)(size):z4 P Any (Instr.makeChan t size):=zP.2.2.2.2.2.2.2.2.2.2.2.2.2.2.2.1 _ _
theorem qq {P}(t)(len)(cap):z4 P Any (Instr.makeSlice t len cap):=zP.2.2.2.2.2.2.2.2.2.2.2.2.2.2.2.2.1 _ _ _
theorem xe {P}(t)(y1):z4 P Any (Place.get t y1):=zP.2.2.2.2.2.2.2.2.2.2.2.2.2.2.2.2.2.1 _ _
theorem X8 {P}(x):z4 P Any (Instr.panic x):=zP.2.2.2.2.2.2.2.2.2.2.2.2.2.2.2.2.2.2.1 _
theorem Y0 {P}(l):z4 P Any (Instr.beginRound l):=zP.2.2.2.2.2.2.2.2.2.2.2.2.2.2.2.2.2.2.2.1 _
theorem xg {P}(l):z4 P Any (Instr.endLoop l):=zP.2.2.2.2.2.2.2.2.2.2.2.2.2.2.2.2.2.2.2.2.1 _
theorem XX {P}(x)(xType)(asserted)(commaOk):z4 P Any (Instr.typeAssert x xType asserted commaOk):=zP.2.2.2.2.2.2.2.2.2.2.2.2.2.2.2.2.2.2.2.2.2.1 _ _ _ _
theorem X7 {P}(a)(b)(c)(d):z4 P Any (Op.Complex.product a b c d):=zP.2.2.2.2.2.2.2.2.2.2.2.2.2.2.2.2.2.2.2.2.2.2.1 _ _ _ _
theorem xu {P}(scale)(a)(b)(c)(d):z4 P Any (Op.Complex.corrected scale a b c d):=zP.2.2.2.2.2.2.2.2.2.2.2.2.2.2.2.2.2.2.2.2.2.2.2 _ _ _ _ _
theorem vw {P:Program}(y1:Nat)(y2:TypeId)(y3:Value)(y4:Value):z4 P Any (Go.Op.eqGuardIn y1 y2 y3 y4):=by
 induction y1 generalizing y2 y3 y4 with
 |zero=> ?_
 |succ n ih=> ?_
 all_goals
  unfold Go.Op.eqGuardIn;repeat' (first|exact trivial|exact fun _=>trivial|with_reducible (first|assumption|exact zf|exact(Y4 _ _ _)|exact(Za _)|exact(zi _)|exact ih _ _ _|apply z4.bind0|apply z4.map0|apply z4.forInArray|apply z4.forInRange|apply z4.forInList|apply z4.mapMArray|apply z4.mapMList|apply z4.foldlMList|apply z4.forInRange' |apply z4.ite|intro _)|split|dsimp only)
theorem Q4 {P:Program}(_argTypes:Array TypeId)(_type:TypeId)(args:Array Value):z4 P Any (Go.Builtin.close_ _argTypes _type args):=by
 unfold Go.Builtin.close_;obtain⟨l⟩:=args;rcases l with _|⟨a,_|⟨b,_|⟨c,_|⟨d,l⟩⟩⟩⟩
 all_goals first
  |exact trivial
  |(cases a<;>first|exact trivial|skip)
 all_goals(try rename_i o;cases o)
 all_goals try(first|exact trivial|refine z4.bind0 ?_ (fun _=> ?_)|refine z4.ite (fun _=> ?_) (fun _=> ?_))
 all_goals
  repeat' (first|exact trivial|exact fun _=>trivial|with_reducible (first|assumption|exact zf|exact(zx _)|apply z4.bind0|apply z4.map0|apply z4.forInArray|apply z4.forInRange|apply z4.forInList|apply z4.mapMArray|apply z4.mapMList|apply z4.foldlMList|apply z4.forInRange' |apply z4.ite|intro _)|split|dsimp only)
theorem xw {P:Program}(argTypes:Array TypeId)(_type:TypeId)(args:Array Value):z4 P Any (Go.Builtin.unsafeSlice_ argTypes _type args):=by
 unfold Go.Builtin.unsafeSlice_;obtain⟨l⟩:=args;rcases l with _|⟨a,_|⟨b,_|⟨c,_|⟨d,l⟩⟩⟩⟩
 all_goals first
  |exact trivial
  |(cases a<;>first|exact trivial|skip)
 all_goals(try rename_i o;cases o)
 all_goals try(first|exact trivial|refine z4.bind0 ?_ (fun _=> ?_)|refine z4.ite (fun _=> ?_) (fun _=> ?_))
 all_goals
  repeat' (first|exact trivial|exact fun _=>trivial|with_reducible (first|assumption|exact zf|exact(ZO _ _ _)|exact(yw _)|exact(ZY _)|exact(zx _)|exact(Za _)|exact(zX _)|exact(Y3 _ _ _)|exact(xF _)|apply z4.bind0|apply z4.map0|apply z4.forInArray|apply z4.forInRange|apply z4.forInList|apply z4.mapMArray|apply z4.mapMList|apply z4.foldlMList|apply z4.forInRange' |apply z4.ite|intro _)|split|dsimp only)
theorem xj {P:Program}(argTypes:Array TypeId)(_type:TypeId)(args:Array Value):z4 P Any (Go.Builtin.unsafeString_ argTypes _type args):=by
 unfold Go.Builtin.unsafeString_;obtain⟨l⟩:=args;rcases l with _|⟨a,_|⟨b,_|⟨c,_|⟨d,l⟩⟩⟩⟩
 all_goals first
  |exact trivial
  |(cases a<;>first|exact trivial|skip)
 all_goals(try rename_i o;cases o)
 all_goals try(first|exact trivial|refine z4.bind0 ?_ (fun _=> ?_)|refine z4.ite (fun _=> ?_) (fun _=> ?_))
 all_goals
  repeat' (first|exact trivial|exact fun _=>trivial|with_reducible (first|assumption|exact zf|exact(ZO _ _ _)|exact(yw _)|exact(ZY _)|exact(Kr _ _ _)|exact(zx _)|exact(Y3 _ _ _)|apply z4.bind0|apply z4.map0|apply z4.forInArray|apply z4.forInRange|apply z4.forInList|apply z4.mapMArray|apply z4.mapMList|apply z4.foldlMList|apply z4.forInRange' |apply z4.ite|intro _)|split|dsimp only)
theorem Q2 {P:Program}(a0:Bool)(y1:Nat)(y2:TypeId)(y3:Value):z4 P Any (Go.Instr.checkKey a0 y1 y2 y3):=by
 induction y1 generalizing y2 y3 with
 |zero=> ?_
 |succ n ih=> ?_
 all_goals
  unfold Go.Instr.checkKey;repeat' (first|exact trivial|exact fun _=>trivial|with_reducible (first|assumption|exact zf|exact(Y4 _ _ _)|exact(zx _)|exact(Za _)|exact(zX _)|exact(XF _)|exact(zi _)|exact ih _ _|apply z4.bind0|apply z4.map0|apply z4.forInArray|apply z4.forInRange|apply z4.forInList|apply z4.mapMArray|apply z4.mapMList|apply z4.foldlMList|apply z4.forInRange' |apply z4.ite|intro _)|split|dsimp only)
theorem Vn {P:Program}(y1:List FieldStep)(y2:TypeId)(y3:Option Value):z4 P Any (Go.followBlind y1 y2 y3):=by
 induction y1 generalizing y2 y3 with
 |nil=> ?_
 |cons x l ih=> ?_
 all_goals
  unfold Go.followBlind;repeat' (first|exact trivial|exact fun _=>trivial|with_reducible (first|assumption|exact zf|exact(Y4 _ _ _)|exact(zi _)|exact ih _ _|apply z4.bind0|apply z4.map0|apply z4.forInArray|apply z4.forInRange|apply z4.forInList|apply z4.mapMArray|apply z4.mapMList|apply z4.foldlMList|apply z4.forInRange' |apply z4.ite|intro _)|split|dsimp only)
theorem YT {P:Program}(argTypes:Array TypeId)(_type:TypeId)(args:Array Value):z4 P Any (Go.Builtin.ssaWrapNilChk_ argTypes _type args):=by
 unfold Go.Builtin.ssaWrapNilChk_;obtain⟨l⟩:=args;rcases l with _|⟨a,_|⟨b,_|⟨c,_|⟨d,l⟩⟩⟩⟩
 ·exact trivial
 ·exact trivial
 ·exact trivial
 ·cases b with
  |string s=>
   cases c with
   |string m=>
    cases a with
    |pointer o=>
     cases o with
     |some a=>exact trivial
     |none=>
      refine z4.bind0 (Z4 _) (fun _=> ?_);repeat' (first|exact trivial|exact fun _=>trivial|with_reducible (first|assumption|exact zf|exact(kb _ _ _ _)|exact(zx _)|exact(zX _)|exact(zi _)|apply z4.bind0|apply z4.map0|apply z4.forInArray|apply z4.forInRange|apply z4.forInList|apply z4.mapMArray|apply z4.mapMList|apply z4.foldlMList|apply z4.forInRange' |apply z4.ite|intro _)|split|dsimp only)
    |_=>exact trivial
   |_=>exact trivial
  |_=>exact trivial
 ·exact trivial
theorem xd {P:Program}:(∀a f,z4 P Any (fieldPlace a f))∧
  (∀k a b,z4 P Any (Op.addrSub k a b))∧
  (∀op a b,z4 P Any (Op.addrCmp op a b))∧
  (∀a3 x a2,z4 P Any (Instr.index a3 x a2))∧
  (∀x y a4,z4 P Any (Instr.sliceBound x y a4))∧
  (∀a b c d,z4 P Any (Op.Complex.quotient a b c d))∧
  (∀xt x a0 a1,z4 P Any (receiverAt xt x a0 a1)):=by
 refine⟨?_,?_,?_,?_,?_,?_,?_⟩<;>intros<;>(first|unfold Go.fieldPlace|unfold Go.Op.addrSub|unfold Go.Op.addrCmp|unfold Go.Instr.index|unfold Go.Instr.sliceBound|unfold Go.Op.Complex.quotient|unfold Go.receiverAt)
 all_goals
  repeat' (first|exact trivial|exact fun _=>trivial|with_reducible (first|assumption|exact zf|exact(uC _ _ _)|exact(Za _)|exact(vv _ _)|exact(XH _)|exact(X4 _ _ _ _)|exact(Y4 _ _ _)|exact(zi _)|exact(zO _ _ _ _)|exact(mild_Op_Complex_cmp _ _ _ _)|exact(xu _ _ _ _ _)|exact(YP _ _)|exact(YM _ _)|exact(YO _ _)|exact(YN _ _)|exact(YT _ _ _)|exact(xe _ _)|exact(Ys _)|exact(XG _ _)|apply z4.bind0|apply z4.map0|apply z4.forInArray|apply z4.forInRange|apply z4.forInList|apply z4.mapMArray|apply z4.mapMList|apply z4.foldlMList|apply z4.forInRange' |apply z4.ite|intro _)|split|dsimp only)
theorem XR {P}(a)(f):z4 P Any (fieldPlace a f):=xd.1 _ _
theorem kB {P}(k)(a)(b):z4 P Any (Op.addrSub k a b):=xd.2.1 _ _ _
theorem kD {P}(op)(a)(b):z4 P Any (Op.addrCmp op a b):=xd.2.2.1 _ _ _
theorem Y5 {P}(xType)(x)(index):z4 P Any (Instr.index xType x index):=xd.2.2.2.1 _ _ _
theorem XY {P}(x)(y)(code):z4 P Any (Instr.sliceBound x y code):=xd.2.2.2.2.1 _ _ _
theorem xO {P}(a)(b)(c)(d):z4 P Any (Op.Complex.quotient a b c d):=xd.2.2.2.2.2.1 _ _ _ _
theorem XQ {P}(xt)(x)(pointerReceiver)(wrapper):z4 P Any (receiverAt xt x pointerReceiver wrapper):=xd.2.2.2.2.2.2 _ _ _ _
theorem kA {P:Program}(y1:Nat)(y2:TypeId)(y3:Value)(y4:Value):z4 P Any (Go.Op.equalIn y1 y2 y3 y4):=by
 induction y1 generalizing y2 y3 y4 with
 |zero=> ?_
 |succ n ih=> ?_
 all_goals
  unfold Go.Op.equalIn;repeat' (first|exact trivial|exact fun _=>trivial|with_reducible (first|assumption|exact zf|exact(ZN _)|exact(kd _)|exact(Y4 _ _ _)|exact(zx _)|exact(Qb _ _)|exact(Vk _ _)|exact(Za _)|exact(zX _)|exact(XF _)|exact(zi _)|exact ih _ _ _|apply z4.bind0|apply z4.map0|apply z4.forInArray|apply z4.forInRange|apply z4.forInList|apply z4.mapMArray|apply z4.mapMList|apply z4.foldlMList|apply z4.forInRange' |apply z4.ite|intro _)|split|dsimp only)
theorem j1 {P:Program}(y1:Nat)(y2:TypeId)(y3:Value)(y4:String):z4 P Any (Go.nilAhead y1 y2 y3 y4):=by
 induction y1 generalizing y2 y3 y4 with
 |zero=> ?_
 |succ n ih=> ?_
 all_goals
  unfold Go.nilAhead;repeat' (first|exact trivial|exact fun _=>trivial|with_reducible (first|assumption|exact zf|exact(Vn _ _ _)|exact(zX _)|exact(zi _)|exact ih _ _ _|apply z4.bind0|apply z4.map0|apply z4.forInArray|apply z4.forInRange|apply z4.forInList|apply z4.mapMArray|apply z4.mapMList|apply z4.foldlMList|apply z4.forInRange' |apply z4.ite|intro _)|split|dsimp only)
theorem x_ {P:Program}:(∀t x y,z4 P Any (Op.equal t x y))∧
  (∀a1 a6 cap a7 a5 a8,z4 P Any (Instr.sliceBounds a1 a6 cap a7 a5 a8))∧
  (∀op k xr xi yr yi,z4 P Any (Op.complexOp op k xr xi yr yi))∧
  (∀s a4 a2,z4 P Any (Instr.fieldAt s a4 a2))∧
  (∀t x a0,z4 P Any (Instr.indexAt t x a0))∧
  (∀a3 a0,z4 P Any (Instr.extract a3 a0)):=by
 refine⟨?_,?_,?_,?_,?_,?_⟩<;>intros<;>(first|unfold Go.Op.equal|unfold Go.Instr.sliceBounds|unfold Go.Op.complexOp|unfold Go.Instr.fieldAt|unfold Go.Instr.indexAt|unfold Go.Instr.extract)
 all_goals
  repeat' (first|exact trivial|exact fun _=>trivial|with_reducible (first|assumption|exact zf|exact(kA _ _ _ _)|exact(XY _ _ _)|exact(zO _ _ _ _)|exact(mild_Op_Complex_cmp _ _ _ _)|exact(qp _ _ _)|exact(X7 _ _ _ _)|exact(xO _ _ _ _)|exact(Xa _ _ _)|exact(yf _)|exact(XR _ _)|exact(zi _)|exact(Y5 _ _ _)|exact(XH _)|exact(X4 _ _ _ _)|exact(Za _)|apply z4.bind0|apply z4.map0|apply z4.forInArray|apply z4.forInRange|apply z4.forInList|apply z4.mapMArray|apply z4.mapMList|apply z4.foldlMList|apply z4.forInRange' |apply z4.ite|intro _)|split|dsimp only)
theorem Qf {P}(t)(x)(y):z4 P Any (Op.equal t x y):=x_.1 _ _ _
theorem yM {P}(isSlice)(len)(cap)(low)(high)(max):z4 P Any (Instr.sliceBounds isSlice len cap low high max):=x_.2.1 _ _ _ _ _ _
theorem vx {P}(op)(k)(xr)(xi)(yr)(yi):z4 P Any (Op.complexOp op k xr xi yr yi):=x_.2.2.1 _ _ _ _ _ _
theorem QC {P}(s)(addr)(field):z4 P Any (Instr.fieldAt s addr field):=x_.2.2.2.1 _ _ _
theorem QA {P}(t)(x)(index):z4 P Any (Instr.indexAt t x index):=x_.2.2.2.2.1 _ _ _
theorem QD {P}(tuple)(index):z4 P Any (Instr.extract tuple index):=x_.2.2.2.2.2 _ _
theorem kc {P:Program}(y1:List FieldStep)(y2:TypeId)(y3:Place):z4 P Any (Go.follow y1 y2 y3):=by
 induction y1 generalizing y2 y3 with
 |nil=> ?_
 |cons x l ih=> ?_
 all_goals
  unfold Go.follow;repeat' (first|exact trivial|exact fun _=>trivial|with_reducible (first|assumption|exact zf|exact(xe _ _)|exact(Ys _)|exact(XR _ _)|exact(Y4 _ _ _)|exact(zi _)|exact ih _ _|apply z4.bind0|apply z4.map0|apply z4.forInArray|apply z4.forInRange|apply z4.forInList|apply z4.mapMArray|apply z4.mapMList|apply z4.foldlMList|apply z4.forInRange' |apply z4.ite|intro _)|split|dsimp only)
theorem uE {P:Program}:(∀a1 x a3 a2 a4,z4 P Any (Instr.slice a1 x a3 a2 a4))∧
  (∀t v path a0,z4 P Any (receiverVia t v path a0)):=by
 refine⟨?_,?_⟩<;>intros<;>(first|unfold Go.Instr.slice|unfold Go.receiverVia)
 all_goals
  repeat' (first|exact trivial|exact fun _=>trivial|with_reducible (first|assumption|exact zf|exact(yM _ _ _ _ _ _)|exact(Ys _)|exact(Za _)|exact(zi _)|exact(kc _ _ _)|exact(XQ _ _ _ _)|apply z4.bind0|apply z4.map0|apply z4.forInArray|apply z4.forInRange|apply z4.forInList|apply z4.mapMArray|apply z4.mapMList|apply z4.foldlMList|apply z4.forInRange' |apply z4.ite|intro _)|split|dsimp only)
theorem Vp {P}(xType)(x)(low)(high)(max):z4 P Any (Instr.slice xType x low high max):=uE.1 _ _ _ _ _
theorem Vl {P}(t)(v)(path)(pointerReceiver):z4 P Any (receiverVia t v path pointerReceiver):=uE.2 _ _ _ _
theorem XZ {P:Program}(a0:TypeId)(k:Value)(y1:List MapEntry)(y2:Nat):z4 P Any (Go.Instr.findAsking a0 k y1 y2):=by
 induction y1 generalizing y2 with
 |nil=> ?_
 |cons x l ih=> ?_
 all_goals
  unfold Go.Instr.findAsking;repeat' (first|exact trivial|exact fun _=>trivial|with_reducible (first|assumption|exact zf|exact(Qf _ _ _)|exact ih _|apply z4.bind0|apply z4.map0|apply z4.forInArray|apply z4.forInRange|apply z4.forInList|apply z4.mapMArray|apply z4.mapMList|apply z4.foldlMList|apply z4.forInRange' |apply z4.ite|intro _)|split|dsimp only)
theorem kb {P:Program}(y1:Nat)(y2:TypeId)(y3:Value)(y4:String):z4 P Any (Go.method y1 y2 y3 y4):=by
 induction y1 generalizing y2 y3 y4 with
 |zero=> ?_
 |succ n ih=> ?_
 all_goals
  unfold Go.method;repeat' (first|exact trivial|exact fun _=>trivial|with_reducible (first|assumption|exact zf|exact(xe _ _)|exact(kc _ _ _)|exact(XQ _ _ _ _)|exact(zx _)|exact(zX _)|exact ih _ _ _|apply z4.bind0|apply z4.map0|apply z4.forInArray|apply z4.forInRange|apply z4.forInList|apply z4.mapMArray|apply z4.mapMList|apply z4.foldlMList|apply z4.forInRange' |apply z4.ite|intro _)|split|dsimp only)
theorem uD {P:Program}:(∀a0 k es,z4 P Any (Instr.findKey a0 k es))∧
  (∀t x a2 a1 a3,z4 P Any (Instr.sliceAt t x a2 a1 a3)):=by
 refine⟨?_,?_⟩<;>intros<;>(first|unfold Go.Instr.findKey|unfold Go.Instr.sliceAt)
 all_goals
  repeat' (first|exact trivial|exact fun _=>trivial|with_reducible (first|assumption|exact zf|exact(XZ _ _ _ _)|exact(zi _)|exact(Vp _ _ _ _ _)|exact(yM _ _ _ _ _ _)|exact(yf _)|exact(Za _)|apply z4.bind0|apply z4.map0|apply z4.forInArray|apply z4.forInRange|apply z4.forInList|apply z4.mapMArray|apply z4.mapMList|apply z4.foldlMList|apply z4.forInRange' |apply z4.ite|intro _)|split|dsimp only)
theorem QB {P}(keyType)(k)(es):z4 P Any (Instr.findKey keyType k es):=uD.1 _ _ _
theorem Qy {P}(t)(x)(low)(high)(max):z4 P Any (Instr.sliceAt t x low high max):=uD.2 _ _ _ _ _
theorem vt {P:Program}:(∀a3 x a2 a1,z4 P Any (Instr.lookup a3 x a2 a1))∧
  (∀a0 map key value,z4 P Any (Instr.mapUpdate a0 map key value))∧
  (∀argTypes _type args,z4 P Any (Builtin.delete_ argTypes _type args))∧
  (∀a0 map key,z4 P Any (Instr.mapEntry a0 map key)):=by
 refine⟨?_,?_,?_,?_⟩<;>intros<;>(first|unfold Go.Instr.lookup|unfold Go.Instr.mapUpdate|unfold Go.Builtin.delete_|unfold Go.Instr.mapEntry)
 all_goals
  repeat' (first|exact trivial|exact fun _=>trivial|with_reducible (first|assumption|exact zf|exact(Q2 _ _ _ _)|exact(QB _ _ _)|exact(Y5 _ _ _)|exact(zi _)|exact(ZV _)|exact(X9 _ _)|exact(zx _)|apply z4.bind0|apply z4.map0|apply z4.forInArray|apply z4.forInRange|apply z4.forInList|apply z4.mapMArray|apply z4.mapMList|apply z4.foldlMList|apply z4.forInRange' |apply z4.ite|intro _)|split|dsimp only)
theorem vy {P}(xType)(x)(index)(commaOk):z4 P Any (Instr.lookup xType x index commaOk):=vt.1 _ _ _ _
theorem Yt {P}(mapType)(map)(key)(value):z4 P Any (Instr.mapUpdate mapType map key value):=vt.2.1 _ _ _ _
theorem qs {P}(argTypes)(_type)(args):z4 P Any (Builtin.delete_ argTypes _type args):=vt.2.2.1 _ _ _
theorem q_ {P}(mapType)(map)(key):z4 P Any (Instr.mapEntry mapType map key):=vt.2.2.2 _ _ _
