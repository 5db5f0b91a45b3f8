import GoSem.Step
import Derived.Laws.Sem
set_option linter.all false
set_option maxHeartbeats 20000000
set_option maxRecDepth 1000000
namespace Go.Proofs.YtolgebdmffcemaaGreatDoor
open Go
def Vh:Halt→Prop
 | .panic _| .fatal _| .throw _| .unsupported _| .stuck _=>True
 |_=>False
def qP:Halt→Prop
 | .stuck _=>True
 | .unsupported (.initOrder _)=>False
 | .unsupported _=>True
 |_=>False
def GB (m:Mark):Prop:=m≠ .disable∧m≠ .enable
def z4 (P:Program){α:Type}(F:α→Prop):Sem α→Prop
 | .pure a=>F a
 | .load _ _ k=>∀v,z4 P F (k v)
 | .store _ _ _ k=>z4 P F k
 | .new _ k=>∀r,z4 P F (k r)
 | .shape _ k=>∀s,z4 P F (k s)
 | .freeze _ _ k=>z4 P F k
 | .frozen _ k=>∀b,z4 P F (k b)
 | .getObj _ k=>∀o,z4 P F (k o)
 | .setObj _ _ k=>z4 P F k
 | .choose _ k=>∀n,z4 P F (k n)
 | .sys _ k=>(∃h,k .wouldBlock= .halt h∧qP h)∧∀r,z4 P F (k r)
 | .program k=>z4 P F (k P)
 | .mark m k=>GB m∧z4 P F k
 | .halt h=>Vh h
def Any {α:Type}(_:α):Prop:=True
section
variable {P:Program}{α β:Type}
theorem z4.mono {F G:α→Prop}(h:∀a,F a→G a):∀{s:Sem α},z4 P F s→z4 P G s:=by
 intro s;induction s with
 |pure a=>exact h a
 |load m a k ih=>exact fun x v=>ih v (x v)
 |store m a v k ih=>exact ih
 |new o k ih=>exact fun x v=>ih v (x v)
 |shape r k ih=>exact fun x v=>ih v (x v)
 |freeze a n k ih=>exact ih
 |frozen a k ih=>exact fun x v=>ih v (x v)
 |getObj r k ih=>exact fun x v=>ih v (x v)
 |setObj r o k ih=>exact ih
 |choose q k ih=>exact fun x v=>ih v (x v)
 |sys c k ih=>exact fun x=>⟨x.1,fun r=>ih r (x.2 r)⟩
 |program k ih=>exact ih P
 |mark m k ih=>exact fun x=>⟨x.1,ih x.2⟩
 |halt x=>exact id
theorem z4.bind' {F:α→Prop}{G:β→Prop}{f:α→Sem β}(hf:∀a,F a→z4 P G (f a)):∀{s:Sem α},z4 P F s→z4 P G (s.bind f):=by
 intro s;induction s with
 |pure a=>exact hf a
 |load m a k ih=>exact fun x v=>ih v (x v)
 |store m a v k ih=>exact ih
 |new o k ih=>exact fun x v=>ih v (x v)
 |shape r k ih=>exact fun x v=>ih v (x v)
 |freeze a n k ih=>exact ih
 |frozen a k ih=>exact fun x v=>ih v (x v)
 |getObj r k ih=>exact fun x v=>ih v (x v)
 |setObj r o k ih=>exact ih
 |choose q k ih=>exact fun x v=>ih v (x v)
 |sys c k ih=>exact fun x=>⟨let⟨h,h1,h2⟩:=x.1;⟨h,by show(k .wouldBlock).bind f=_;rw[h1];rfl,h2⟩,fun r=>ih r (x.2 r)⟩
 |program k ih=>exact ih P
 |mark m k ih=>exact fun x=>⟨x.1,ih x.2⟩
 |halt x=>exact id
theorem z4.bind {F:α→Prop}{G:β→Prop}{f:α→Sem β}{s:Sem α}(hs:z4 P F s)(hf:∀a,F a→z4 P G (f a)):z4 P G (s>>=f):=z4.bind' hf hs
theorem z4.bind0 {G:β→Prop}{f:α→Sem β}{s:Sem α}(hs:z4 P Any s)(hf:∀a,z4 P G (f a)):z4 P G (s>>=f):=z4.bind' (fun a _=>hf a) hs
theorem z4.map0 {f:α→β}{s:Sem α}(hs:z4 P Any s):z4 P Any (f<$>s):=by
 have h:(f<$>s)=s>>=fun a=>Pure.pure (f a):=by simp
 rw[h];exact z4.bind0 hs fun _=>by exact trivial
theorem z4.forInList {γ:Type}(f:α→γ→Sem (ForInStep γ))(h:∀a s,z4 P Any (f a s)):∀(l:List α) (a0:γ),z4 P Any (forIn l a0 f)
 |[],a0=>by simp only[List.forIn_nil];trivial
 |a::l,a0=>by
  simp only[List.forIn_cons];refine z4.bind0 (h a a0) (fun r=> ?_)
  cases r with
  |done b=>trivial
  |yield b=>exact z4.forInList f h l b
theorem z4.forInArray {γ:Type}(f:α→γ→Sem (ForInStep γ))(h:∀a s,z4 P Any (f a s))(l:Array α)(a0:γ):z4 P Any (forIn l a0 f):=by
 rw[←Array.forIn_toList];exact z4.forInList f h l.toList a0
theorem z4.forInRange {γ:Type}(f:Nat→γ→Sem (ForInStep γ))(h:∀a s,z4 P Any (f a s))(r:Std.Legacy.Range)(a0:γ):z4 P Any (forIn r a0 f):=by
 rw[Std.Legacy.Range.forIn_eq_forIn_range'];exact z4.forInList f h _ a0
theorem z4.mapMLoop (f:α→Sem β)(h:∀a,z4 P Any (f a)):∀(l:List α) (a0:List β),z4 P Any (List.mapM.loop f l a0)
 |[],a0=>trivial
 |a::l,a0=>by
  unfold List.mapM.loop;exact z4.bind0 (h a) fun b=>z4.mapMLoop f h l (b::a0)
theorem z4.mapMList (f:α→Sem β)(h:∀a,z4 P Any (f a))(l:List α):z4 P Any (l.mapM f):=z4.mapMLoop f h l []
theorem z4.mapMArray (f:α→Sem β)(h:∀a,z4 P Any (f a))(as:Array α):z4 P Any (as.mapM f):=by
 rw[Array.mapM_eq_mapM_toList];exact z4.map0 (z4.mapMList f h as.toList)
theorem z4.ite {c:Prop} [Decidable c] {F:α→Prop}{x y:Sem α}(h1:c→z4 P F x)(h2:¬c→z4 P F y):z4 P F (if c then x else y):=by
 by_cases h:c
 ·rw[if_pos h];exact h1 h
 ·rw[if_neg h];exact h2 h
theorem z4.foldlMList {γ:Type}(f:γ→α→Sem γ)(h:∀a s,z4 P Any (f s a)):∀(l:List α) (a0:γ),z4 P Any (l.foldlM f a0)
 |[],_=>trivial
 |a::l,a0=>by
  rw[List.foldlM_cons];exact z4.bind0 (h a a0) fun b=>z4.foldlMList f h l b
theorem z4.forInList' {γ:Type}:∀(l:List α) (f:(a:α)→a∈l→γ→Sem (ForInStep γ)) (_:∀a h s,z4 P Any (f a h s)) (a0:γ),z4 P Any (forIn' l a0 f)
 |[],f,h,a0=>by simp only[List.forIn'_nil];trivial
 |a::l,f,h,a0=>by
  simp only[List.forIn'_cons];refine z4.bind0 (h a _ a0) (fun r=> ?_)
  cases r with
  |done b=>trivial
  |yield b=>exact z4.forInList' l _ (fun a h' s=>h a _ s) b
theorem z4.forInRange' {γ:Type}(r:Std.Legacy.Range)(f:(a:Nat)→a∈r→γ→Sem (ForInStep γ))(h:∀a h s,z4 P Any (f a h s))(a0:γ):z4 P Any (forIn' r a0 f):=by
 rw[Std.Legacy.Range.forIn'_eq_forIn'_range'];exact z4.forInList' _ _ (fun a h' s=>h a _ s) a0
theorem Zo {F:α→Prop}(s:String):z4 P F (stuck s:Sem α):=trivial
theorem zq {F:α→Prop}(u:Unsupported):z4 P F (unsupported u:Sem α):=trivial
theorem Js:z4 P (·=P) (program:Sem Program):=rfl
theorem y9 (a:Addr)(m:Mode):z4 P Any (load a m):=fun _=>trivial
theorem Zy (a:Addr)(v:Value)(m:Mode):z4 P Any (store a v m):=trivial
theorem ZV (o:Obj):z4 P Any (newObj o):=fun _=>trivial
theorem ZW (a:Addr):z4 P Any (frozen a):=fun _=>trivial
theorem Z4 (q:Question):z4 P Any (choose q):=fun _=>trivial
theorem gl (m:Mark)(h:GB m):z4 P Any (mark m):=⟨h,trivial⟩
theorem zg:z4 P Any (mark .noRoom):=⟨⟨by simp,by simp⟩,trivial⟩
theorem zN:z4 P Any (program:Sem Program):=trivial
end
theorem zr {P:Program}:(∀a6,z4 P Any (askRoom a6))∧
  (∀r,z4 P Any (viewAt r))∧
  (∀r,z4 P Any (numberAt r))∧
  (∀r,z4 P Any (cellsIn r))∧
  (∀a a8,z4 P Any (asNumber a a8))∧
  (∀a,z4 P Any (markStringish a))∧
  (∀a,z4 P Any (stringish a))∧
  (∀t,z4 P Any (typeInfo t))∧
  (∀t,z4 P Any (underlying t))∧
  (∀name,z4 P Any (cutType name))∧
  (∀name,z4 P Any (globalAddr name))∧
  (∀a7 a1,z4 P Any (newRow a7 a1))∧
  (∀{α:Type} (b0:String),z4 P Any (Go.panicString b0:Sem α))∧
  (∀y1,z4 P Any (asIntOf y1))∧
  (∀y1,z4 P Any (asBool y1))∧
  (∀y1,z4 P Any (asString y1))∧
  (∀y1,z4 P Any (asAgg y1))∧
  (∀a u n,z4 P Any (variablesAt a u n))∧
  (∀k a n,z4 P Any (intVariablesAt k a n))∧
  (∀op k x y,z4 P Any (Op.floatArith op k x y))∧
  (∀op k x y,z4 P Any (Op.floatCmp op k x y))∧
  (∀op k x y,z4 P Any (Op.intArith op k x y))∧
  (∀op k x y,z4 P Any (Op.intBits op k x y))∧
  (∀op x y,z4 P Any (Op.intCmp op x y))∧
  (∀op x y,z4 P Any (Op.stringOp op x y))∧
  (∀a9 a3 a4,z4 P Any (Conv.floatToFloat a9 a3 a4))∧
  (∀a9 a3 a4,z4 P Any (Conv.floatToInt a9 a3 a4))∧
  (∀a4 n,z4 P Any (Conv.intToFloat a4 n))∧
  (∀a4 n,z4 P Any (Conv.intToInt a4 n))∧
  (∀n,z4 P Any (Conv.intToString n))∧
  (∀a a1,z4 P Any (Builtin.holdsCells a a1))∧
  (∀y1,z4 P Any (Builtin.lenOf y1))∧
  (∀y1,z4 P Any (Instr.sureAddr y1))∧
  (∀a5,z4 P Any (Instr.entry a5))∧
  (∀fn first a0,z4 P Any (Instr.makeFunc fn first a0))∧
  (∀b1 new,z4 P Any (Instr.keyThatStays b1 new))∧
  (∀a5 a2 _type,z4 P Any (Instr.next a5 a2 _type))∧
  (∀l,z4 P Any (Instr.getLoop l))∧
  (∀block,z4 P Any (Instr.takeDeferred block))∧
  (∀g,z4 P Any (Instr.waits g))∧
  (∀g,z4 P Any (Instr.ready g)):=by
 refine⟨?_,?_,?_,?_,?_,?_,?_,?_,?_,?_,?_,?_,?_,?_,?_,?_,?_,?_,?_,?_,?_,?_,?_,?_,?_,?_,?_,?_,?_,?_,?_,?_,?_,?_,?_,?_,?_,?_,?_,?_,?_⟩<;>intros<;>(first|unfold Go.askRoom|unfold Go.viewAt|unfold Go.numberAt|unfold Go.cellsIn|unfold Go.asNumber|unfold Go.markStringish|unfold Go.stringish|unfold Go.typeInfo|unfold Go.underlying|unfold Go.cutType|unfold Go.globalAddr|unfold Go.newRow|unfold Go.panicString|unfold Go.asIntOf|unfold Go.asBool|unfold Go.asString|unfold Go.asAgg|unfold Go.variablesAt|unfold Go.intVariablesAt|unfold Go.Op.floatArith|unfold Go.Op.floatCmp|unfold Go.Op.intArith|unfold Go.Op.intBits|unfold Go.Op.intCmp|unfold Go.Op.stringOp|unfold Go.Conv.floatToFloat|unfold Go.Conv.floatToInt|unfold Go.Conv.intToFloat|unfold Go.Conv.intToInt|unfold Go.Conv.intToString|unfold Go.Builtin.holdsCells|unfold Go.Builtin.lenOf|unfold Go.Instr.sureAddr|unfold Go.Instr.entry|unfold Go.Instr.makeFunc|unfold Go.Instr.keyThatStays|unfold Go.Instr.next|unfold Go.Instr.getLoop|unfold Go.Instr.takeDeferred|unfold Go.Instr.waits|unfold Go.Instr.ready)
 all_goals
  repeat' (first|exact trivial|exact fun _=>trivial|with_reducible (first|assumption|exact zg|apply z4.bind0|apply z4.map0|apply z4.forInArray|apply z4.forInRange|apply z4.forInList|apply z4.mapMArray|apply z4.mapMList|apply z4.foldlMList|apply z4.forInRange' |apply z4.ite|intro _)|split|dsimp only)
theorem vr {P}(bytes):z4 P Any (askRoom bytes):=zr.1 _
theorem xE {P}(r):z4 P Any (viewAt r):=zr.2.1 _
theorem Q7 {P}(r):z4 P Any (numberAt r):=zr.2.2.1 _
theorem Jw {P}(r):z4 P Any (cellsIn r):=zr.2.2.2.1 _
theorem Q9 {P}(a)(lost):z4 P Any (asNumber a lost):=zr.2.2.2.2.1 _ _
theorem yv {P}(a):z4 P Any (markStringish a):=zr.2.2.2.2.2.1 _
theorem Kt {P}(a):z4 P Any (stringish a):=zr.2.2.2.2.2.2.1 _
theorem zW {P}(t):z4 P Any (typeInfo t):=zr.2.2.2.2.2.2.2.1 _
theorem zi {P}(t):z4 P Any (underlying t):=zr.2.2.2.2.2.2.2.2.1 _
theorem kA {P}(name):z4 P Any (globalAddr name):=zr.2.2.2.2.2.2.2.2.2.2.1 _
theorem Yl {P}(elem)(cells):z4 P Any (newRow elem cells):=zr.2.2.2.2.2.2.2.2.2.2.2.1 _ _
theorem XH {P}(y1):z4 P Any (asIntOf y1):=zr.2.2.2.2.2.2.2.2.2.2.2.2.2.1 _
theorem kf {P}(y1):z4 P Any (asBool y1):=zr.2.2.2.2.2.2.2.2.2.2.2.2.2.2.1 _
theorem Yd {P}(y1):z4 P Any (asString y1):=zr.2.2.2.2.2.2.2.2.2.2.2.2.2.2.2.1 _
theorem Kw {P}(y1):z4 P Any (asAgg y1):=zr.2.2.2.2.2.2.2.2.2.2.2.2.2.2.2.2.1 _
theorem Y0 {P}(a)(u)(n):z4 P Any (variablesAt a u n):=zr.2.2.2.2.2.2.2.2.2.2.2.2.2.2.2.2.2.1 _ _ _
theorem qT {P}(k)(a)(n):z4 P Any (intVariablesAt k a n):=zr.2.2.2.2.2.2.2.2.2.2.2.2.2.2.2.2.2.2.1 _ _ _
theorem xd {P}(op)(k)(x)(y):z4 P Any (Op.floatArith op k x y):=zr.2.2.2.2.2.2.2.2.2.2.2.2.2.2.2.2.2.2.2.1 _ _ _ _
theorem X8 {P}(op)(k)(x)(y):z4 P Any (Op.floatCmp op k x y):=zr.2.2.2.2.2.2.2.2.2.2.2.2.2.2.2.2.2.2.2.2.1 _ _ _ _
theorem Ky {P}(op)(x)(y):z4 P Any (Op.intCmp op x y):=zr.2.2.2.2.2.2.2.2.2.2.2.2.2.2.2.2.2.2.2.2.2.2.2.1 _ _ _
theorem x_ {P}(op)(x)(y):z4 P Any (Op.stringOp op x y):=zr.2.2.2.2.2.2.2.2.2.2.2.2.2.2.2.2.2.2.2.2.2.2.2.2.1 _ _ _
theorem yM {P}(src)(bits)(dst):z4 P Any (Conv.floatToFloat src bits dst):=zr.2.2.2.2.2.2.2.2.2.2.2.2.2.2.2.2.2.2.2.2.2.2.2.2.2.1 _ _ _
theorem qp {P}(src)(bits)(dst):z4 P Any (Conv.floatToInt src bits dst):=zr.2.2.2.2.2.2.2.2.2.2.2.2.2.2.2.2.2.2.2.2.2.2.2.2.2.2.1 _ _ _
theorem Xi {P}(a)(cells):z4 P Any (Builtin.holdsCells a cells):=zr.2.2.2.2.2.2.2.2.2.2.2.2.2.2.2.2.2.2.2.2.2.2.2.2.2.2.2.2.2.2.1 _ _
theorem QB {P}(y1):z4 P Any (Builtin.lenOf y1):=zr.2.2.2.2.2.2.2.2.2.2.2.2.2.2.2.2.2.2.2.2.2.2.2.2.2.2.2.2.2.2.2.1 _
theorem yf {P}(y1):z4 P Any (Instr.sureAddr y1):=zr.2.2.2.2.2.2.2.2.2.2.2.2.2.2.2.2.2.2.2.2.2.2.2.2.2.2.2.2.2.2.2.2.1 _
theorem Vt {P}(iter):z4 P Any (Instr.entry iter):=zr.2.2.2.2.2.2.2.2.2.2.2.2.2.2.2.2.2.2.2.2.2.2.2.2.2.2.2.2.2.2.2.2.2.1 _
theorem qW {P}(fn)(first)(captured):z4 P Any (Instr.makeFunc fn first captured):=zr.2.2.2.2.2.2.2.2.2.2.2.2.2.2.2.2.2.2.2.2.2.2.2.2.2.2.2.2.2.2.2.2.2.2.1 _ _ _
theorem Xb {P}(old)(new):z4 P Any (Instr.keyThatStays old new):=zr.2.2.2.2.2.2.2.2.2.2.2.2.2.2.2.2.2.2.2.2.2.2.2.2.2.2.2.2.2.2.2.2.2.2.2.1 _ _
theorem kF {P}(iter)(isString)(_type):z4 P Any (Instr.next iter isString _type):=zr.2.2.2.2.2.2.2.2.2.2.2.2.2.2.2.2.2.2.2.2.2.2.2.2.2.2.2.2.2.2.2.2.2.2.2.2.1 _ _ _
theorem yx {P}(l):z4 P Any (Instr.getLoop l):=zr.2.2.2.2.2.2.2.2.2.2.2.2.2.2.2.2.2.2.2.2.2.2.2.2.2.2.2.2.2.2.2.2.2.2.2.2.2.1 _
theorem yF {P}(block):z4 P Any (Instr.takeDeferred block):=zr.2.2.2.2.2.2.2.2.2.2.2.2.2.2.2.2.2.2.2.2.2.2.2.2.2.2.2.2.2.2.2.2.2.2.2.2.2.2.1 _
theorem Vp {P}(g):z4 P Any (Instr.waits g):=zr.2.2.2.2.2.2.2.2.2.2.2.2.2.2.2.2.2.2.2.2.2.2.2.2.2.2.2.2.2.2.2.2.2.2.2.2.2.2.2.1 _
theorem Vr {P}(g):z4 P Any (Instr.ready g):=zr.2.2.2.2.2.2.2.2.2.2.2.2.2.2.2.2.2.2.2.2.2.2.2.2.2.2.2.2.2.2.2.2.2.2.2.2.2.2.2.2 _
theorem Qr {P:Program}(a:Addr)(i:Nat)(y1:Nat)(y2:Array Value):z4 P Any (Go.loadCellsFrom a i y1 y2):=by
 induction y1 generalizing i y2 with
 |zero=> ?_
 |succ n ih=> ?_
 all_goals
  unfold Go.loadCellsFrom;repeat' (first|exact trivial|exact fun _=>trivial|with_reducible (first|assumption|exact zg|exact ih _ _|apply z4.bind0|apply z4.map0|apply z4.forInArray|apply z4.forInRange|apply z4.forInList|apply z4.mapMArray|apply z4.mapMList|apply z4.foldlMList|apply z4.forInRange' |apply z4.ite|intro _)|split|dsimp only)
theorem YA {P:Program}(a:Addr)(vs:List Value)(i:Nat):z4 P Any (Go.storeCells a vs i):=by
 induction vs generalizing i with
 |nil=> ?_
 |cons x l ih=> ?_
 all_goals
  unfold Go.storeCells;repeat' (first|exact trivial|exact fun _=>trivial|with_reducible (first|assumption|exact zg|exact ih _|apply z4.bind0|apply z4.map0|apply z4.forInArray|apply z4.forInRange|apply z4.forInList|apply z4.mapMArray|apply z4.mapMList|apply z4.foldlMList|apply z4.forInRange' |apply z4.ite|intro _)|split|dsimp only)
theorem Kv {P:Program}(a:Addr)(a0:ByteArray)(y1:Nat):z4 P Any (Go.loadBytes a a0 y1):=by
 induction y1 generalizing a a0 with
 |zero=> ?_
 |succ n ih=> ?_
 all_goals
  unfold Go.loadBytes;repeat' (first|exact trivial|exact fun _=>trivial|with_reducible (first|assumption|exact zg|exact ih _ _|apply z4.bind0|apply z4.map0|apply z4.forInArray|apply z4.forInRange|apply z4.forInList|apply z4.mapMArray|apply z4.mapMList|apply z4.foldlMList|apply z4.forInRange' |apply z4.ite|intro _)|split|dsimp only)
theorem q9 {P:Program}(_argTypes:Array TypeId)(_type:TypeId)(args:Array Value):z4 P Any (Go.Builtin.complex_ _argTypes _type args):=by
 unfold Go.Builtin.complex_;obtain⟨l⟩:=args;rcases l with _|⟨a,_|⟨b,_|⟨c,l⟩⟩⟩
 ·exact trivial
 ·exact trivial
 ·cases a<;>first|exact trivial|(cases b<;>first|exact trivial|exact z4.ite (fun _=>trivial) (fun _=>trivial))
 ·exact trivial
theorem QC {P:Program}(_argTypes:Array TypeId)(_type:TypeId)(args:Array Value):z4 P Any (Go.Builtin.imag_ _argTypes _type args):=by
 unfold Go.Builtin.imag_;obtain⟨l⟩:=args;rcases l with _|⟨a,_|⟨b,_|⟨c,_|⟨d,l⟩⟩⟩⟩
 all_goals first
  |exact trivial
  |(cases a<;>first|exact trivial|skip)
 all_goals(try rename_i o;cases o)
 all_goals try(first|exact trivial|refine z4.bind0 ?_ (fun _=> ?_)|refine z4.ite (fun _=> ?_) (fun _=> ?_))
 all_goals
  repeat' (first|exact trivial|exact fun _=>trivial|with_reducible (first|assumption|exact zg|apply z4.bind0|apply z4.map0|apply z4.forInArray|apply z4.forInRange|apply z4.forInList|apply z4.mapMArray|apply z4.mapMList|apply z4.foldlMList|apply z4.forInRange' |apply z4.ite|intro _)|split|dsimp only)
theorem QA {P:Program}(_argTypes:Array TypeId)(_type:TypeId)(args:Array Value):z4 P Any (Go.Builtin.real_ _argTypes _type args):=by
 unfold Go.Builtin.real_;obtain⟨l⟩:=args;rcases l with _|⟨a,_|⟨b,_|⟨c,_|⟨d,l⟩⟩⟩⟩
 all_goals first
  |exact trivial
  |(cases a<;>first|exact trivial|skip)
 all_goals(try rename_i o;cases o)
 all_goals try(first|exact trivial|refine z4.bind0 ?_ (fun _=> ?_)|refine z4.ite (fun _=> ?_) (fun _=> ?_))
 all_goals
  repeat' (first|exact trivial|exact fun _=>trivial|with_reducible (first|assumption|exact zg|apply z4.bind0|apply z4.map0|apply z4.forInArray|apply z4.forInRange|apply z4.forInList|apply z4.mapMArray|apply z4.mapMList|apply z4.foldlMList|apply z4.forInRange' |apply z4.ite|intro _)|split|dsimp only)
theorem qU {P:Program}:z4 P Any (Go.Instr.panicnil):=by
 unfold Go.Instr.panicnil;refine⟨⟨_,rfl,trivial⟩,fun r=> ?_⟩
 cases r<;>exact trivial
theorem zC {P:Program}:(∀n,z4 P Any (behindNumber n))∧
  (∀a,z4 P Any (noView a))∧
  (∀a b,z4 P Any (mayBeOne a b))∧
  (∀t,z4 P Any (typeStr t))∧
  (∀t,z4 P Any (zeroValue t))∧
  (∀t,z4 P Any (sizeOf t))∧
  (∀t,z4 P Any (isAgg t))∧
  (∀a n,z4 P Any (loadCells a n))∧
  (∀t v,z4 P Any (newVar t v))∧
  (∀t,z4 P Any (elemOf t))∧
  (∀v,z4 P Any (asInt v))∧
  (∀a n,z4 P Any (byteVariablesAt a n))∧
  (∀a b,z4 P Any (storeBytes a b))∧
  (∀op x,z4 P Any (Op.unary op x))∧
  (∀a3 s,z4 P Any (Conv.stringToBytes a3 s))∧
  (∀a3 s,z4 P Any (Conv.stringToRunes a3 s))∧
  (∀a,z4 P Any (Conv.seenAt a))∧
  (∀size a8 n base x,z4 P Any (Builtin.mayShare size a8 n base x))∧
  (∀argTypes _type args,z4 P Any (Builtin.cap_ argTypes _type args))∧
  (∀argTypes _type args,z4 P Any (Builtin.len_ argTypes _type args))∧
  (∀y1 y2,z4 P Any (Builtin.max2 y1 y2))∧
  (∀y1 y2,z4 P Any (Builtin.min2 y1 y2))∧
  (∀t v,z4 P Any (Builtin.printOne t v))∧
  (∀a0 x,z4 P Any (Instr.makeInterface a0 x))∧
  (∀a0 x,z4 P Any (Instr.range a0 x))∧
  (∀fn tmps a4 a2 a5 a1,z4 P Any (Instr.enterLoop fn tmps a4 a2 a5 a1))∧
  (∀l args,z4 P Any (Instr.yield l args))∧
  (∀l a7,z4 P Any (Instr.endRound l a7))∧
  (∀l d,z4 P Any (Instr.deferInRound l d))∧
  (∀op k x y,z4 P Any (Op.Complex.arith op k x y))∧
  (∀op k x y,z4 P Any (Op.Complex.cmp op k x y))∧
  (∀a9 x a6,z4 P Any (Op.Complex.conv a9 x a6))∧
  (∀a9 re im a6,z4 P Any (Conv.complexToComplex a9 re im a6)):=by
 refine⟨?_,?_,?_,?_,?_,?_,?_,?_,?_,?_,?_,?_,?_,?_,?_,?_,?_,?_,?_,?_,?_,?_,?_,?_,?_,?_,?_,?_,?_,?_,?_,?_,?_⟩<;>intros<;>(first|unfold Go.behindNumber|unfold Go.noView|unfold Go.mayBeOne|unfold Go.typeStr|unfold Go.zeroValue|unfold Go.sizeOf|unfold Go.isAgg|unfold Go.loadCells|unfold Go.newVar|unfold Go.elemOf|unfold Go.asInt|unfold Go.byteVariablesAt|unfold Go.storeBytes|unfold Go.Op.unary|unfold Go.Conv.stringToBytes|unfold Go.Conv.stringToRunes|unfold Go.Conv.seenAt|unfold Go.Builtin.mayShare|unfold Go.Builtin.cap_|unfold Go.Builtin.len_|unfold Go.Builtin.max2|unfold Go.Builtin.min2|unfold Go.Builtin.printOne|unfold Go.Instr.makeInterface|unfold Go.Instr.range|unfold Go.Instr.enterLoop|unfold Go.Instr.yield|unfold Go.Instr.endRound|unfold Go.Instr.deferInRound|unfold Go.Op.Complex.arith|unfold Go.Op.Complex.cmp|unfold Go.Op.Complex.conv|unfold Go.Conv.complexToComplex)
 all_goals
  repeat' (first|exact trivial|exact fun _=>trivial|with_reducible (first|assumption|exact zg|exact(Q7 _)|exact(xE _)|exact(Kt _)|exact(zW _)|exact(zi _)|exact(Qr _ _ _ _)|exact(Yl _ _)|exact(XH _)|exact(qT _ _ _)|exact(YA _ _ _)|exact(mild_Op_intArith _ _ _ _)|exact(mild_Op_intBits _ _ _ _)|exact(yv _)|exact(Xi _ _)|exact(x_ _ _ _)|exact(kf _)|exact(yx _)|exact(xd _ _ _ _)|exact(X8 _ _ _ _)|exact(yM _ _ _)|apply z4.bind0|apply z4.map0|apply z4.forInArray|apply z4.forInRange|apply z4.forInList|apply z4.mapMArray|apply z4.mapMList|apply z4.foldlMList|apply z4.forInRange' |apply z4.ite|intro _)|split|dsimp only)
theorem ZL {P}(n):z4 P Any (behindNumber n):=zC.1 _
theorem kb {P}(a):z4 P Any (noView a):=zC.2.1 _
theorem Q8 {P}(a)(b):z4 P Any (mayBeOne a b):=zC.2.2.1 _ _
theorem XF {P}(t):z4 P Any (typeStr t):=zC.2.2.2.1 _
theorem ZU {P}(t):z4 P Any (zeroValue t):=zC.2.2.2.2.1 _
theorem Zb {P}(t):z4 P Any (sizeOf t):=zC.2.2.2.2.2.1 _
theorem oF {P}(t):z4 P Any (isAgg t):=zC.2.2.2.2.2.2.1 _
theorem Ku {P}(a)(n):z4 P Any (loadCells a n):=zC.2.2.2.2.2.2.2.1 _ _
theorem xF {P}(t)(v):z4 P Any (newVar t v):=zC.2.2.2.2.2.2.2.2.1 _ _
theorem ZX {P}(t):z4 P Any (elemOf t):=zC.2.2.2.2.2.2.2.2.2.1 _
theorem yw {P}(v):z4 P Any (asInt v):=zC.2.2.2.2.2.2.2.2.2.2.1 _
theorem j9 {P}(op)(x):z4 P Any (Op.unary op x):=zC.2.2.2.2.2.2.2.2.2.2.2.2.2.1 _ _
theorem Xf {P}(elem)(s):z4 P Any (Conv.stringToBytes elem s):=zC.2.2.2.2.2.2.2.2.2.2.2.2.2.2.1 _ _
theorem Xe {P}(elem)(s):z4 P Any (Conv.stringToRunes elem s):=zC.2.2.2.2.2.2.2.2.2.2.2.2.2.2.2.1 _ _
theorem Vw {P}(a):z4 P Any (Conv.seenAt a):=zC.2.2.2.2.2.2.2.2.2.2.2.2.2.2.2.2.1 _
theorem q8 {P}(size)(sLen)(n)(base)(x):z4 P Any (Builtin.mayShare size sLen n base x):=zC.2.2.2.2.2.2.2.2.2.2.2.2.2.2.2.2.2.1 _ _ _ _ _
theorem vC {P}(argTypes)(_type)(args):z4 P Any (Builtin.cap_ argTypes _type args):=zC.2.2.2.2.2.2.2.2.2.2.2.2.2.2.2.2.2.2.1 _ _ _
theorem ZM {P}(argTypes)(_type)(args):z4 P Any (Builtin.len_ argTypes _type args):=zC.2.2.2.2.2.2.2.2.2.2.2.2.2.2.2.2.2.2.2.1 _ _ _
theorem vB {P}(y1)(y2):z4 P Any (Builtin.max2 y1 y2):=zC.2.2.2.2.2.2.2.2.2.2.2.2.2.2.2.2.2.2.2.2.1 _ _
theorem vz {P}(y1)(y2):z4 P Any (Builtin.min2 y1 y2):=zC.2.2.2.2.2.2.2.2.2.2.2.2.2.2.2.2.2.2.2.2.2.1 _ _
theorem X_ {P}(t)(v):z4 P Any (Builtin.printOne t v):=zC.2.2.2.2.2.2.2.2.2.2.2.2.2.2.2.2.2.2.2.2.2.2.1 _ _
theorem xN {P}(xType)(x):z4 P Any (Instr.makeInterface xType x):=zC.2.2.2.2.2.2.2.2.2.2.2.2.2.2.2.2.2.2.2.2.2.2.2.1 _ _
theorem Vs {P}(xType)(x):z4 P Any (Instr.range xType x):=zC.2.2.2.2.2.2.2.2.2.2.2.2.2.2.2.2.2.2.2.2.2.2.2.2.1 _ _
theorem Yo {P}(fn)(tmps)(params)(assign)(body)(around):z4 P Any (Instr.enterLoop fn tmps params assign body around):=zC.2.2.2.2.2.2.2.2.2.2.2.2.2.2.2.2.2.2.2.2.2.2.2.2.2.1 _ _ _ _ _ _
theorem YK {P}(l)(jump):z4 P Any (Instr.endRound l jump):=zC.2.2.2.2.2.2.2.2.2.2.2.2.2.2.2.2.2.2.2.2.2.2.2.2.2.2.2.1 _ _
theorem yG {P}(l)(d):z4 P Any (Instr.deferInRound l d):=zC.2.2.2.2.2.2.2.2.2.2.2.2.2.2.2.2.2.2.2.2.2.2.2.2.2.2.2.2.1 _ _
theorem zO {P}(op)(k)(x)(y):z4 P Any (Op.Complex.arith op k x y):=zC.2.2.2.2.2.2.2.2.2.2.2.2.2.2.2.2.2.2.2.2.2.2.2.2.2.2.2.2.2.1 _ _ _ _
theorem qn {P}(src)(x)(dst):z4 P Any (Op.Complex.conv src x dst):=zC.2.2.2.2.2.2.2.2.2.2.2.2.2.2.2.2.2.2.2.2.2.2.2.2.2.2.2.2.2.2.2.1 _ _ _
theorem xf {P}(src)(re)(im)(dst):z4 P Any (Conv.complexToComplex src re im dst):=zC.2.2.2.2.2.2.2.2.2.2.2.2.2.2.2.2.2.2.2.2.2.2.2.2.2.2.2.2.2.2.2.2 _ _ _ _
theorem Z1 {P:Program}:(∀n,z4 P Any (backFromNumber n))∧
  (∀a b,z4 P Any (sameAddr a b))∧
  (∀t a,z4 P Any (loadVar t a))∧
  (∀t a v,z4 P Any (storeVar t a v))∧
  (∀t cs off,z4 P Any (part t cs off))∧
  (∀{α:Type} (e:RuntimeError),z4 P Any (Go.runtimePanic e:Sem α))∧
  (∀a,z4 P Any (byteOf a))∧
  (∀x,z4 P Any (Conv.bytesToString x))∧
  (∀x,z4 P Any (Conv.runesToString x))∧
  (∀a7 a5 x,z4 P Any (Conv.unsafePointer a7 a5 x))∧
  (∀size n y1,z4 P Any (Builtin.firstCells size n y1))∧
  (∀argTypes _type args,z4 P Any (Builtin.clear_ argTypes _type args))∧
  (∀_argTypes _type args,z4 P Any (Builtin.max_ _argTypes _type args))∧
  (∀_argTypes _type args,z4 P Any (Builtin.min_ _argTypes _type args))∧
  (∀ln a2 argTypes args,z4 P Any (Builtin.pieces ln a2 argTypes args))∧
  (∀a4 v,z4 P Any (Instr.box a4 v))∧
  (∀t a0,z4 P Any (Instr.build t a0))∧
  (∀t a6 a0,z4 P Any (Instr.buildSlice t a6 a0))∧
  (∀t a1,z4 P Any (Instr.makeMap t a1))∧
  (∀_mapType map a3 value,z4 P Any (Instr.entryStore _mapType map a3 value)):=by
 refine⟨?_,?_,?_,?_,?_,?_,?_,?_,?_,?_,?_,?_,?_,?_,?_,?_,?_,?_,?_,?_⟩<;>intros<;>(first|unfold Go.backFromNumber|unfold Go.sameAddr|unfold Go.loadVar|unfold Go.storeVar|unfold Go.part|unfold Go.runtimePanic|unfold Go.byteOf|unfold Go.Conv.bytesToString|unfold Go.Conv.runesToString|unfold Go.Conv.unsafePointer|unfold Go.Builtin.firstCells|unfold Go.Builtin.clear_|unfold Go.Builtin.max_|unfold Go.Builtin.min_|unfold Go.Builtin.pieces|unfold Go.Instr.box|unfold Go.Instr.build|unfold Go.Instr.buildSlice|unfold Go.Instr.makeMap|unfold Go.Instr.entryStore)
 all_goals
  repeat' (first|exact trivial|exact fun _=>trivial|with_reducible (first|assumption|exact zg|exact(ZL _)|exact(Q8 _ _)|exact(kb _)|exact(oF _)|exact(Ku _ _)|exact(Zb _)|exact(YA _ _ _)|exact(ZX _)|exact(xF _ _)|exact(Vw _)|exact(Q9 _ _)|exact(Jw _)|exact(zi _)|exact(Y0 _ _ _)|exact(ZU _)|exact(vB _ _)|exact(vz _ _)|exact(X_ _ _)|exact(Yl _ _)|exact(yw _)|apply z4.bind0|apply z4.map0|apply z4.forInArray|apply z4.forInRange|apply z4.forInList|apply z4.mapMArray|apply z4.mapMList|apply z4.foldlMList|apply z4.forInRange' |apply z4.ite|intro _)|split|dsimp only)
theorem Q6 {P}(a)(b):z4 P Any (sameAddr a b):=Z1.2.1 _ _
theorem XG {P}(t)(a):z4 P Any (loadVar t a):=Z1.2.2.1 _ _
theorem j7 {P}(t)(a)(v):z4 P Any (storeVar t a v):=Z1.2.2.2.1 _ _ _
theorem Y1 {P}(t)(cs)(off):z4 P Any (part t cs off):=Z1.2.2.2.2.1 _ _ _
theorem zy {P:Program}{α:Type}(e:RuntimeError):z4 P Any (Go.runtimePanic e:Sem α):=Z1.2.2.2.2.2.1 _
theorem ke {P}(a):z4 P Any (byteOf a):=Z1.2.2.2.2.2.2.1 _
theorem Xh {P}(x):z4 P Any (Conv.bytesToString x):=Z1.2.2.2.2.2.2.2.1 _
theorem Xg {P}(x):z4 P Any (Conv.runesToString x):=Z1.2.2.2.2.2.2.2.2.1 _
theorem Xd {P}(src)(dst)(x):z4 P Any (Conv.unsafePointer src dst x):=Z1.2.2.2.2.2.2.2.2.2.1 _ _ _
theorem Xj {P}(size)(n)(y1):z4 P Any (Builtin.firstCells size n y1):=Z1.2.2.2.2.2.2.2.2.2.2.1 _ _ _
theorem Q0 {P}(argTypes)(_type)(args):z4 P Any (Builtin.clear_ argTypes _type args):=Z1.2.2.2.2.2.2.2.2.2.2.2.1 _ _ _
theorem vA {P}(_argTypes)(_type)(args):z4 P Any (Builtin.max_ _argTypes _type args):=Z1.2.2.2.2.2.2.2.2.2.2.2.2.1 _ _ _
theorem vy {P}(_argTypes)(_type)(args):z4 P Any (Builtin.min_ _argTypes _type args):=Z1.2.2.2.2.2.2.2.2.2.2.2.2.2.1 _ _ _
theorem qZ {P}(ln)(consts)(argTypes)(args):z4 P Any (Builtin.pieces ln consts argTypes args):=Z1.2.2.2.2.2.2.2.2.2.2.2.2.2.2.1 _ _ _ _
theorem Kz {P}(elem)(v):z4 P Any (Instr.box elem v):=Z1.2.2.2.2.2.2.2.2.2.2.2.2.2.2.2.1 _ _
theorem Vu {P}(t)(parts):z4 P Any (Instr.build t parts):=Z1.2.2.2.2.2.2.2.2.2.2.2.2.2.2.2.2.1 _ _
theorem XZ {P}(t)(len)(parts):z4 P Any (Instr.buildSlice t len parts):=Z1.2.2.2.2.2.2.2.2.2.2.2.2.2.2.2.2.2.1 _ _ _
theorem Qu {P}(t)(reserve):z4 P Any (Instr.makeMap t reserve):=Z1.2.2.2.2.2.2.2.2.2.2.2.2.2.2.2.2.2.2.1 _ _
theorem XY {P}(_mapType)(map)(stamp)(value):z4 P Any (Instr.entryStore _mapType map stamp value):=Z1.2.2.2.2.2.2.2.2.2.2.2.2.2.2.2.2.2.2.2 _ _ _ _
theorem Zt {P:Program}(_argTypes:Array TypeId)(_type:TypeId)(args:Array Value):z4 P Any (Go.Builtin.unsafeAdd_ _argTypes _type args):=by
 unfold Go.Builtin.unsafeAdd_;obtain⟨l⟩:=args;rcases l with _|⟨a,_|⟨b,_|⟨c,_|⟨d,l⟩⟩⟩⟩
 all_goals first
  |exact trivial
  |(cases a<;>first|exact trivial|skip)
 all_goals(try rename_i o;cases o)
 all_goals try(first|exact trivial|refine z4.bind0 ?_ (fun _=> ?_)|refine z4.ite (fun _=> ?_) (fun _=> ?_))
 all_goals
  repeat' (first|exact trivial|exact fun _=>trivial|with_reducible (first|assumption|exact zg|exact(ZM _ _ _)|exact(yw _)|exact(xE _)|apply z4.bind0|apply z4.map0|apply z4.forInArray|apply z4.forInRange|apply z4.forInList|apply z4.mapMArray|apply z4.mapMList|apply z4.foldlMList|apply z4.forInRange' |apply z4.ite|intro _)|split|dsimp only)
theorem Yp {P:Program}(_argTypes:Array TypeId)(a0:TypeId)(args:Array Value):z4 P Any (Go.Builtin.unsafeSliceData_ _argTypes a0 args):=by
 unfold Go.Builtin.unsafeSliceData_;obtain⟨l⟩:=args;rcases l with _|⟨a,_|⟨b,l⟩⟩
 ·exact trivial
 ·cases a with
  |slice base n c=>
   cases base with
   |none=>exact trivial
   |some a=>
    refine z4.ite (fun _=>trivial) (fun _=> ?_);refine z4.bind0 (xE _) (fun _=>z4.ite (fun _=>trivial) (fun _=> ?_));exact z4.bind0 (ZX _) fun _=>z4.bind0 (ZV _) fun _=>trivial
  |_=>exact trivial
 ·exact trivial
theorem Y3 {P:Program}(_argTypes:Array TypeId)(a0:TypeId)(args:Array Value):z4 P Any (Go.Builtin.unsafeStringData_ _argTypes a0 args):=by
 unfold Go.Builtin.unsafeStringData_;obtain⟨l⟩:=args;rcases l with _|⟨a,_|⟨b,_|⟨c,_|⟨d,l⟩⟩⟩⟩
 all_goals first
  |exact trivial
  |(cases a<;>first|exact trivial|skip)
 all_goals(try rename_i o;cases o)
 all_goals try(first|exact trivial|refine z4.bind0 ?_ (fun _=> ?_)|refine z4.ite (fun _=> ?_) (fun _=> ?_))
 all_goals
  repeat' (first|exact trivial|exact fun _=>trivial|with_reducible (first|assumption|exact zg|exact(ZX _)|exact(yv _)|exact(Yl _ _)|apply z4.bind0|apply z4.map0|apply z4.forInArray|apply z4.forInRange|apply z4.forInList|apply z4.mapMArray|apply z4.mapMList|apply z4.foldlMList|apply z4.forInRange' |apply z4.ite|intro _)|split|dsimp only)
theorem YJ {P:Program}(x y:Nat):z4 P Any (Go.Op.Complex.add x y):=zO _ _ _ _
theorem YG {P:Program}(x y:Nat):z4 P Any (Go.Op.Complex.sub x y):=zO _ _ _ _
theorem YI {P:Program}(x y:Nat):z4 P Any (Go.Op.Complex.mul x y):=zO _ _ _ _
theorem YH {P:Program}(x y:Nat):z4 P Any (Go.Op.Complex.quo x y):=zO _ _ _ _
theorem zP {P:Program}:(∀y1 y2,z4 P Any (samePointer y1 y2))∧
  (∀{α:Type} (k:IntKind) (x y:Int) (a8:BoundsCode),z4 P Any (Go.boundsPanic k x y a8:Sem α))∧
  (∀y1,z4 P Any (asAddr y1))∧
  (∀base a5 a4,z4 P Any (partAt base a5 a4))∧
  (∀a b,z4 P Any (Op.twoPlaces a b))∧
  (∀k a n,z4 P Any (Op.addrMod k a n))∧
  (∀op k x y,z4 P Any (Op.intDiv op k x y))∧
  (∀op k x _yk y,z4 P Any (Op.shift op k x _yk y))∧
  (∀argTypes _type args,z4 P Any (Builtin.append_ argTypes _type args))∧
  (∀argTypes _type args,z4 P Any (Builtin.copy_ argTypes _type args))∧
  (∀t a3,z4 P Any (Instr.loadAt t a3))∧
  (∀t a3 val,z4 P Any (Instr.storeAt t a3 val))∧
  (∀b0 x,z4 P Any (Instr.arrayAt b0 x))∧
  (∀a9 heap b2,z4 P Any (Instr.alloc a9 heap b2))∧
  (∀a1 x a6,z4 P Any (Instr.field a1 x a6))∧
  (∀t size,z4 P Any (Instr.makeChan t size))∧
  (∀t b1 cap,z4 P Any (Instr.makeSlice t b1 cap))∧
  (∀t y1,z4 P Any (Place.get t y1))∧
  (∀x,z4 P Any (Instr.panic x))∧
  (∀l,z4 P Any (Instr.beginRound l))∧
  (∀l,z4 P Any (Instr.endLoop l))∧
  (∀x a1 a0 a2,z4 P Any (Instr.typeAssert x a1 a0 a2))∧
  (∀a b c d,z4 P Any (Op.Complex.product a b c d))∧
  (∀a7 a b c d,z4 P Any (Op.Complex.corrected a7 a b c d)):=by
 refine⟨?_,?_,?_,?_,?_,?_,?_,?_,?_,?_,?_,?_,?_,?_,?_,?_,?_,?_,?_,?_,?_,?_,?_,?_⟩<;>intros<;>(first|unfold Go.samePointer|unfold Go.boundsPanic|unfold Go.asAddr|unfold Go.partAt|unfold Go.Op.twoPlaces|unfold Go.Op.addrMod|unfold Go.Op.intDiv|unfold Go.Op.shift|unfold Go.Builtin.append_|unfold Go.Builtin.copy_|unfold Go.Instr.loadAt|unfold Go.Instr.storeAt|unfold Go.Instr.arrayAt|unfold Go.Instr.alloc|unfold Go.Instr.field|unfold Go.Instr.makeChan|unfold Go.Instr.makeSlice|unfold Go.Place.get|unfold Go.Instr.panic|unfold Go.Instr.beginRound|unfold Go.Instr.endLoop|unfold Go.Instr.typeAssert|unfold Go.Op.Complex.product|unfold Go.Op.Complex.corrected)
 all_goals
  repeat' (first|exact trivial|exact fun _=>trivial|with_reducible (first|assumption|exact zg|exact(Q6 _ _)|exact(zy _)|exact(ke _)|exact(zW _)|exact(Xj _ _ _)|exact(QB _)|exact(q8 _ _ _ _ _)|exact(yw _)|exact(vr _)|exact(Yl _ _)|exact(Zb _)|exact(YA _ _ _)|exact(zi _)|exact(ZU _)|exact(yf _)|exact(XG _ _)|exact(j7 _ _ _)|exact(xF _ _)|exact(Kw _)|exact(Y1 _ _ _)|exact(qU)|exact(yx _)|exact(zO _ _ _ _)|exact(YJ _ _)|exact(YG _ _)|exact(YI _ _)|exact(YH _ _)|apply z4.bind0|apply z4.map0|apply z4.forInArray|apply z4.forInRange|apply z4.forInList|apply z4.mapMArray|apply z4.mapMList|apply z4.foldlMList|apply z4.forInRange' |apply z4.ite|intro _)|split|dsimp only)
theorem Vl {P}(y1)(y2):z4 P Any (samePointer y1 y2):=zP.1 _ _
theorem xZ {P:Program}{α:Type}(k:IntKind)(x y:Int)(a0:BoundsCode):z4 P Any (Go.boundsPanic k x y a0:Sem α):=zP.2.1 _ _ _ _
theorem Ym {P}(y1):z4 P Any (asAddr y1):=zP.2.2.1 _
theorem uG {P}(base)(cells)(bytes):z4 P Any (partAt base cells bytes):=zP.2.2.2.1 _ _ _
theorem vt {P}(a)(b):z4 P Any (Op.twoPlaces a b):=zP.2.2.2.2.1 _ _
theorem kD {P}(k)(a)(n):z4 P Any (Op.addrMod k a n):=zP.2.2.2.2.2.1 _ _ _
theorem Kx {P}(op)(k)(x)(y):z4 P Any (Op.intDiv op k x y):=zP.2.2.2.2.2.2.1 _ _ _ _
theorem jb {P}(op)(k)(x)(_yk)(y):z4 P Any (Op.shift op k x _yk y):=zP.2.2.2.2.2.2.2.1 _ _ _ _ _
theorem qr {P}(argTypes)(_type)(args):z4 P Any (Builtin.append_ argTypes _type args):=zP.2.2.2.2.2.2.2.2.1 _ _ _
theorem QD {P}(argTypes)(_type)(args):z4 P Any (Builtin.copy_ argTypes _type args):=zP.2.2.2.2.2.2.2.2.2.1 _ _ _
theorem vx {P}(t)(addr):z4 P Any (Instr.loadAt t addr):=zP.2.2.2.2.2.2.2.2.2.2.1 _ _
theorem Qs {P}(t)(addr)(val):z4 P Any (Instr.storeAt t addr val):=zP.2.2.2.2.2.2.2.2.2.2.2.1 _ _ _
theorem Qz {P}(arr)(x):z4 P Any (Instr.arrayAt arr x):=zP.2.2.2.2.2.2.2.2.2.2.2.2.1 _ _
theorem Vv {P}(elem)(heap)(old):z4 P Any (Instr.alloc elem heap old):=zP.2.2.2.2.2.2.2.2.2.2.2.2.2.1 _ _ _
theorem Xc {P}(xType)(x)(field):z4 P Any (Instr.field xType x field):=zP.2.2.2.2.2.2.2.2.2.2.2.2.2.2.1 _ _ _
theorem qX {P}(t)(size):z4 P Any (Instr.makeChan t size):=zP.2.2.2.2.2.2.2.2.2.2.2.2.2.2.2.1 _ _
theorem qo {P}(t)(len)(cap):z4 P Any (Instr.makeSlice t len cap):=zP.2.2.2.2.2.2.2.2.2.2.2.2.2.2.2.2.1 _ _ _
theorem xb {P}(t)(y1):z4 P Any (Place.get t y1):=zP.2.2.2.2.2.2.2.2.2.2.2.2.2.2.2.2.2.1 _ _
theorem Xa {P}(x):z4 P Any (Instr.panic x):=zP.2.2.2.2.2.2.2.2.2.2.2.2.2.2.2.2.2.2.1 _
theorem yZ {P}(l):z4 P Any (Instr.beginRound l):=zP.2.2.2.2.2.2.2.2.2.2.2.2.2.2.2.2.2.2.2.1 _
theorem xe {P}(l):z4 P Any (Instr.endLoop l):=zP.2.2.2.2.2.2.2.2.2.2.2.2.2.2.2.2.2.2.2.2.1 _
theorem XV {P}(x)(xType)(asserted)(commaOk):z4 P Any (Instr.typeAssert x xType asserted commaOk):=zP.2.2.2.2.2.2.2.2.2.2.2.2.2.2.2.2.2.2.2.2.2.1 _ _ _ _
theorem X9 {P}(a)(b)(c)(d):z4 P Any (Op.Complex.product a b c d):=zP.2.2.2.2.2.2.2.2.2.2.2.2.2.2.2.2.2.2.2.2.2.2.1 _ _ _ _
theorem xp {P}(scale)(a)(b)(c)(d):z4 P Any (Op.Complex.corrected scale a b c d):=zP.2.2.2.2.2.2.2.2.2.2.2.2.2.2.2.2.2.2.2.2.2.2.2 _ _ _ _ _
theorem vu {P:Program}(y1:Nat)(y2:TypeId)(y3:Value)(y4:Value):z4 P Any (Go.Op.eqGuardIn y1 y2 y3 y4):=by
 induction y1 generalizing y2 y3 y4 with
 |zero=> ?_
 |succ n ih=> ?_
 all_goals
  unfold Go.Op.eqGuardIn;repeat' (first|exact trivial|exact fun _=>trivial|with_reducible (first|assumption|exact zg|exact(Y1 _ _ _)|exact(Zb _)|exact(zi _)|exact ih _ _ _|apply z4.bind0|apply z4.map0|apply z4.forInArray|apply z4.forInRange|apply z4.forInList|apply z4.mapMArray|apply z4.mapMList|apply z4.foldlMList|apply z4.forInRange' |apply z4.ite|intro _)|split|dsimp only)
theorem q_ {P:Program}(_argTypes:Array TypeId)(_type:TypeId)(args:Array Value):z4 P Any (Go.Builtin.close_ _argTypes _type args):=by
 unfold Go.Builtin.close_;obtain⟨l⟩:=args;rcases l with _|⟨a,_|⟨b,_|⟨c,_|⟨d,l⟩⟩⟩⟩
 all_goals first
  |exact trivial
  |(cases a<;>first|exact trivial|skip)
 all_goals(try rename_i o;cases o)
 all_goals try(first|exact trivial|refine z4.bind0 ?_ (fun _=> ?_)|refine z4.ite (fun _=> ?_) (fun _=> ?_))
 all_goals
  repeat' (first|exact trivial|exact fun _=>trivial|with_reducible (first|assumption|exact zg|exact(zy _)|apply z4.bind0|apply z4.map0|apply z4.forInArray|apply z4.forInRange|apply z4.forInList|apply z4.mapMArray|apply z4.mapMList|apply z4.foldlMList|apply z4.forInRange' |apply z4.ite|intro _)|split|dsimp only)
theorem xq {P:Program}(argTypes:Array TypeId)(_type:TypeId)(args:Array Value):z4 P Any (Go.Builtin.unsafeSlice_ argTypes _type args):=by
 unfold Go.Builtin.unsafeSlice_;obtain⟨l⟩:=args;rcases l with _|⟨a,_|⟨b,_|⟨c,_|⟨d,l⟩⟩⟩⟩
 all_goals first
  |exact trivial
  |(cases a<;>first|exact trivial|skip)
 all_goals(try rename_i o;cases o)
 all_goals try(first|exact trivial|refine z4.bind0 ?_ (fun _=> ?_)|refine z4.ite (fun _=> ?_) (fun _=> ?_))
 all_goals
  repeat' (first|exact trivial|exact fun _=>trivial|with_reducible (first|assumption|exact zg|exact(ZM _ _ _)|exact(yw _)|exact(ZX _)|exact(zy _)|exact(Zb _)|exact(zW _)|exact(Y0 _ _ _)|exact(xE _)|apply z4.bind0|apply z4.map0|apply z4.forInArray|apply z4.forInRange|apply z4.forInList|apply z4.mapMArray|apply z4.mapMList|apply z4.foldlMList|apply z4.forInRange' |apply z4.ite|intro _)|split|dsimp only)
theorem xg {P:Program}(argTypes:Array TypeId)(_type:TypeId)(args:Array Value):z4 P Any (Go.Builtin.unsafeString_ argTypes _type args):=by
 unfold Go.Builtin.unsafeString_;obtain⟨l⟩:=args;rcases l with _|⟨a,_|⟨b,_|⟨c,_|⟨d,l⟩⟩⟩⟩
 all_goals first
  |exact trivial
  |(cases a<;>first|exact trivial|skip)
 all_goals(try rename_i o;cases o)
 all_goals try(first|exact trivial|refine z4.bind0 ?_ (fun _=> ?_)|refine z4.ite (fun _=> ?_) (fun _=> ?_))
 all_goals
  repeat' (first|exact trivial|exact fun _=>trivial|with_reducible (first|assumption|exact zg|exact(ZM _ _ _)|exact(yw _)|exact(ZX _)|exact(Kv _ _ _)|exact(zy _)|exact(Y0 _ _ _)|apply z4.bind0|apply z4.map0|apply z4.forInArray|apply z4.forInRange|apply z4.forInList|apply z4.mapMArray|apply z4.mapMList|apply z4.foldlMList|apply z4.forInRange' |apply z4.ite|intro _)|split|dsimp only)
theorem qY {P:Program}(a0:Bool)(y1:Nat)(y2:TypeId)(y3:Value):z4 P Any (Go.Instr.checkKey a0 y1 y2 y3):=by
 induction y1 generalizing y2 y3 with
 |zero=> ?_
 |succ n ih=> ?_
 all_goals
  unfold Go.Instr.checkKey;repeat' (first|exact trivial|exact fun _=>trivial|with_reducible (first|assumption|exact zg|exact(Y1 _ _ _)|exact(zy _)|exact(Zb _)|exact(zW _)|exact(XF _)|exact(zi _)|exact ih _ _|apply z4.bind0|apply z4.map0|apply z4.forInArray|apply z4.forInRange|apply z4.forInList|apply z4.mapMArray|apply z4.mapMList|apply z4.foldlMList|apply z4.forInRange' |apply z4.ite|intro _)|split|dsimp only)
theorem Vo {P:Program}(y1:List FieldStep)(y2:TypeId)(y3:Option Value):z4 P Any (Go.followBlind y1 y2 y3):=by
 induction y1 generalizing y2 y3 with
 |nil=> ?_
 |cons x l ih=> ?_
 all_goals
  unfold Go.followBlind;repeat' (first|exact trivial|exact fun _=>trivial|with_reducible (first|assumption|exact zg|exact(Y1 _ _ _)|exact(zi _)|exact ih _ _|apply z4.bind0|apply z4.map0|apply z4.forInArray|apply z4.forInRange|apply z4.forInList|apply z4.mapMArray|apply z4.mapMList|apply z4.foldlMList|apply z4.forInRange' |apply z4.ite|intro _)|split|dsimp only)
theorem YN {P:Program}(argTypes:Array TypeId)(_type:TypeId)(args:Array Value):z4 P Any (Go.Builtin.ssaWrapNilChk_ argTypes _type args):=by
 unfold Go.Builtin.ssaWrapNilChk_;obtain⟨l⟩:=args;rcases l with _|⟨a,_|⟨b,_|⟨c,_|⟨d,l⟩⟩⟩⟩
 ·exact trivial
 ·exact trivial
 ·exact trivial
 ·cases b with
  |string s=>
   cases c with
   |string m=>
    cases a with
    |pointer o=>
     cases o with
     |some a=>exact trivial
     |none=>
      refine z4.bind0 (Z4 _) (fun _=> ?_);repeat' (first|exact trivial|exact fun _=>trivial|with_reducible (first|assumption|exact zg|exact(kc _ _ _ _)|exact(zy _)|exact(zW _)|exact(zi _)|apply z4.bind0|apply z4.map0|apply z4.forInArray|apply z4.forInRange|apply z4.forInList|apply z4.mapMArray|apply z4.mapMList|apply z4.foldlMList|apply z4.forInRange' |apply z4.ite|intro _)|split|dsimp only)
    |_=>exact trivial
   |_=>exact trivial
  |_=>exact trivial
 ·exact trivial
theorem x9 {P:Program}:(∀a f,z4 P Any (fieldPlace a f))∧
  (∀k a b,z4 P Any (Op.addrSub k a b))∧
  (∀op a b,z4 P Any (Op.addrCmp op a b))∧
  (∀a3 x a2,z4 P Any (Instr.index a3 x a2))∧
  (∀x y a4,z4 P Any (Instr.sliceBound x y a4))∧
  (∀a b c d,z4 P Any (Op.Complex.quotient a b c d))∧
  (∀xt x a0 a1,z4 P Any (receiverAt xt x a0 a1)):=by
 refine⟨?_,?_,?_,?_,?_,?_,?_⟩<;>intros<;>(first|unfold Go.fieldPlace|unfold Go.Op.addrSub|unfold Go.Op.addrCmp|unfold Go.Instr.index|unfold Go.Instr.sliceBound|unfold Go.Op.Complex.quotient|unfold Go.receiverAt)
 all_goals
  repeat' (first|exact trivial|exact fun _=>trivial|with_reducible (first|assumption|exact zg|exact(uG _ _ _)|exact(Zb _)|exact(vt _ _)|exact(XH _)|exact(xZ _ _ _ _)|exact(Y1 _ _ _)|exact(zi _)|exact(zO _ _ _ _)|exact(mild_Op_Complex_cmp _ _ _ _)|exact(xp _ _ _ _ _)|exact(YJ _ _)|exact(YG _ _)|exact(YI _ _)|exact(YH _ _)|exact(YN _ _ _)|exact(xb _ _)|exact(Ym _)|exact(XG _ _)|apply z4.bind0|apply z4.map0|apply z4.forInArray|apply z4.forInRange|apply z4.forInList|apply z4.mapMArray|apply z4.mapMList|apply z4.foldlMList|apply z4.forInRange' |apply z4.ite|intro _)|split|dsimp only)
theorem XP {P}(a)(f):z4 P Any (fieldPlace a f):=x9.1 _ _
theorem kC {P}(k)(a)(b):z4 P Any (Op.addrSub k a b):=x9.2.1 _ _ _
theorem kE {P}(op)(a)(b):z4 P Any (Op.addrCmp op a b):=x9.2.2.1 _ _ _
theorem Y2 {P}(xType)(x)(index):z4 P Any (Instr.index xType x index):=x9.2.2.2.1 _ _ _
theorem XW {P}(x)(y)(code):z4 P Any (Instr.sliceBound x y code):=x9.2.2.2.2.1 _ _ _
theorem xM {P}(a)(b)(c)(d):z4 P Any (Op.Complex.quotient a b c d):=x9.2.2.2.2.2.1 _ _ _ _
theorem XO {P}(xt)(x)(pointerReceiver)(wrapper):z4 P Any (receiverAt xt x pointerReceiver wrapper):=x9.2.2.2.2.2.2 _ _ _ _
theorem kB {P:Program}(y1:Nat)(y2:TypeId)(y3:Value)(y4:Value):z4 P Any (Go.Op.equalIn y1 y2 y3 y4):=by
 induction y1 generalizing y2 y3 y4 with
 |zero=> ?_
 |succ n ih=> ?_
 all_goals
  unfold Go.Op.equalIn;repeat' (first|exact trivial|exact fun _=>trivial|with_reducible (first|assumption|exact zg|exact(ZL _)|exact(ke _)|exact(Y1 _ _ _)|exact(zy _)|exact(Q6 _ _)|exact(Vl _ _)|exact(Zb _)|exact(zW _)|exact(XF _)|exact(zi _)|exact ih _ _ _|apply z4.bind0|apply z4.map0|apply z4.forInArray|apply z4.forInRange|apply z4.forInList|apply z4.mapMArray|apply z4.mapMList|apply z4.foldlMList|apply z4.forInRange' |apply z4.ite|intro _)|split|dsimp only)
theorem j8 {P:Program}(y1:Nat)(y2:TypeId)(y3:Value)(y4:String):z4 P Any (Go.nilAhead y1 y2 y3 y4):=by
 induction y1 generalizing y2 y3 y4 with
 |zero=> ?_
 |succ n ih=> ?_
 all_goals
  unfold Go.nilAhead;repeat' (first|exact trivial|exact fun _=>trivial|with_reducible (first|assumption|exact zg|exact(Vo _ _ _)|exact(zW _)|exact(zi _)|exact ih _ _ _|apply z4.bind0|apply z4.map0|apply z4.forInArray|apply z4.forInRange|apply z4.forInList|apply z4.mapMArray|apply z4.mapMList|apply z4.foldlMList|apply z4.forInRange' |apply z4.ite|intro _)|split|dsimp only)
theorem xY {P:Program}:(∀t x y,z4 P Any (Op.equal t x y))∧
  (∀a1 a6 cap a7 a5 a8,z4 P Any (Instr.sliceBounds a1 a6 cap a7 a5 a8))∧
  (∀op k xr xi yr yi,z4 P Any (Op.complexOp op k xr xi yr yi))∧
  (∀s a4 a2,z4 P Any (Instr.fieldAt s a4 a2))∧
  (∀t x a0,z4 P Any (Instr.indexAt t x a0))∧
  (∀a3 a0,z4 P Any (Instr.extract a3 a0)):=by
 refine⟨?_,?_,?_,?_,?_,?_⟩<;>intros<;>(first|unfold Go.Op.equal|unfold Go.Instr.sliceBounds|unfold Go.Op.complexOp|unfold Go.Instr.fieldAt|unfold Go.Instr.indexAt|unfold Go.Instr.extract)
 all_goals
  repeat' (first|exact trivial|exact fun _=>trivial|with_reducible (first|assumption|exact zg|exact(kB _ _ _ _)|exact(XW _ _ _)|exact(zO _ _ _ _)|exact(mild_Op_Complex_cmp _ _ _ _)|exact(qn _ _ _)|exact(X9 _ _ _ _)|exact(xM _ _ _ _)|exact(Xc _ _ _)|exact(yf _)|exact(XP _ _)|exact(zi _)|exact(Y2 _ _ _)|exact(XH _)|exact(xZ _ _ _ _)|exact(Zb _)|apply z4.bind0|apply z4.map0|apply z4.forInArray|apply z4.forInRange|apply z4.forInList|apply z4.mapMArray|apply z4.mapMList|apply z4.foldlMList|apply z4.forInRange' |apply z4.ite|intro _)|split|dsimp only)
theorem Qa {P}(t)(x)(y):z4 P Any (Op.equal t x y):=xY.1 _ _ _
theorem yL {P}(isSlice)(len)(cap)(low)(high)(max):z4 P Any (Instr.sliceBounds isSlice len cap low high max):=xY.2.1 _ _ _ _ _ _
theorem vv {P}(op)(k)(xr)(xi)(yr)(yi):z4 P Any (Op.complexOp op k xr xi yr yi):=xY.2.2.1 _ _ _ _ _ _
theorem Qx {P}(s)(addr)(field):z4 P Any (Instr.fieldAt s addr field):=xY.2.2.2.1 _ _ _
theorem Qv {P}(t)(x)(index):z4 P Any (Instr.indexAt t x index):=xY.2.2.2.2.1 _ _ _
theorem Qy {P}(tuple)(index):z4 P Any (Instr.extract tuple index):=xY.2.2.2.2.2 _ _
theorem kd {P:Program}(y1:List FieldStep)(y2:TypeId)(y3:Place):z4 P Any (Go.follow y1 y2 y3):=by
 induction y1 generalizing y2 y3 with
 |nil=> ?_
 |cons x l ih=> ?_
 all_goals
  unfold Go.follow;repeat' (first|exact trivial|exact fun _=>trivial|with_reducible (first|assumption|exact zg|exact(xb _ _)|exact(Ym _)|exact(XP _ _)|exact(Y1 _ _ _)|exact(zi _)|exact ih _ _|apply z4.bind0|apply z4.map0|apply z4.forInArray|apply z4.forInRange|apply z4.forInList|apply z4.mapMArray|apply z4.mapMList|apply z4.foldlMList|apply z4.forInRange' |apply z4.ite|intro _)|split|dsimp only)
theorem uI {P:Program}:(∀a1 x a3 a2 a4,z4 P Any (Instr.slice a1 x a3 a2 a4))∧
  (∀t v path a0,z4 P Any (receiverVia t v path a0)):=by
 refine⟨?_,?_⟩<;>intros<;>(first|unfold Go.Instr.slice|unfold Go.receiverVia)
 all_goals
  repeat' (first|exact trivial|exact fun _=>trivial|with_reducible (first|assumption|exact zg|exact(yL _ _ _ _ _ _)|exact(Ym _)|exact(Zb _)|exact(zi _)|exact(kd _ _ _)|exact(XO _ _ _ _)|apply z4.bind0|apply z4.map0|apply z4.forInArray|apply z4.forInRange|apply z4.forInList|apply z4.mapMArray|apply z4.mapMList|apply z4.foldlMList|apply z4.forInRange' |apply z4.ite|intro _)|split|dsimp only)
theorem Vq {P}(xType)(x)(low)(high)(max):z4 P Any (Instr.slice xType x low high max):=uI.1 _ _ _ _ _
theorem Vm {P}(t)(v)(path)(pointerReceiver):z4 P Any (receiverVia t v path pointerReceiver):=uI.2 _ _ _ _
theorem XX {P:Program}(a0:TypeId)(k:Value)(y1:List MapEntry)(y2:Nat):z4 P Any (Go.Instr.findAsking a0 k y1 y2):=by
 induction y1 generalizing y2 with
 |nil=> ?_
 |cons x l ih=> ?_
 all_goals
  unfold Go.Instr.findAsking;repeat' (first|exact trivial|exact fun _=>trivial|with_reducible (first|assumption|exact zg|exact(Qa _ _ _)|exact ih _|apply z4.bind0|apply z4.map0|apply z4.forInArray|apply z4.forInRange|apply z4.forInList|apply z4.mapMArray|apply z4.mapMList|apply z4.foldlMList|apply z4.forInRange' |apply z4.ite|intro _)|split|dsimp only)
theorem kc {P:Program}(y1:Nat)(y2:TypeId)(y3:Value)(y4:String):z4 P Any (Go.method y1 y2 y3 y4):=by
 induction y1 generalizing y2 y3 y4 with
 |zero=> ?_
 |succ n ih=> ?_
 all_goals
  unfold Go.method;repeat' (first|exact trivial|exact fun _=>trivial|with_reducible (first|assumption|exact zg|exact(xb _ _)|exact(kd _ _ _)|exact(XO _ _ _ _)|exact(zy _)|exact(zW _)|exact ih _ _ _|apply z4.bind0|apply z4.map0|apply z4.forInArray|apply z4.forInRange|apply z4.forInList|apply z4.mapMArray|apply z4.mapMList|apply z4.foldlMList|apply z4.forInRange' |apply z4.ite|intro _)|split|dsimp only)
theorem uH {P:Program}:(∀a0 k es,z4 P Any (Instr.findKey a0 k es))∧
  (∀t x a2 a1 a3,z4 P Any (Instr.sliceAt t x a2 a1 a3)):=by
 refine⟨?_,?_⟩<;>intros<;>(first|unfold Go.Instr.findKey|unfold Go.Instr.sliceAt)
 all_goals
  repeat' (first|exact trivial|exact fun _=>trivial|with_reducible (first|assumption|exact zg|exact(XX _ _ _ _)|exact(zi _)|exact(Vq _ _ _ _ _)|exact(yL _ _ _ _ _ _)|exact(yf _)|exact(Zb _)|apply z4.bind0|apply z4.map0|apply z4.forInArray|apply z4.forInRange|apply z4.forInList|apply z4.mapMArray|apply z4.mapMList|apply z4.foldlMList|apply z4.forInRange' |apply z4.ite|intro _)|split|dsimp only)
theorem Qw {P}(keyType)(k)(es):z4 P Any (Instr.findKey keyType k es):=uH.1 _ _ _
theorem Qt {P}(t)(x)(low)(high)(max):z4 P Any (Instr.sliceAt t x low high max):=uH.2 _ _ _ _ _
theorem vq {P:Program}:(∀a3 x a2 a1,z4 P Any (Instr.lookup a3 x a2 a1))∧
  (∀a0 map key value,z4 P Any (Instr.mapUpdate a0 map key value))∧
  (∀argTypes _type args,z4 P Any (Builtin.delete_ argTypes _type args))∧
  (∀a0 map key,z4 P Any (Instr.mapEntry a0 map key)):=by
 refine⟨?_,?_,?_,?_⟩<;>intros<;>(first|unfold Go.Instr.lookup|unfold Go.Instr.mapUpdate|unfold Go.Builtin.delete_|unfold Go.Instr.mapEntry)
 all_goals
  repeat' (first|exact trivial|exact fun _=>trivial|with_reducible (first|assumption|exact zg|exact(qY _ _ _ _)|exact(Qw _ _ _)|exact(Y2 _ _ _)|exact(zi _)|exact(ZU _)|exact(Xb _ _)|exact(zy _)|apply z4.bind0|apply z4.map0|apply z4.forInArray|apply z4.forInRange|apply z4.forInList|apply z4.mapMArray|apply z4.mapMList|apply z4.foldlMList|apply z4.forInRange' |apply z4.ite|intro _)|split|dsimp only)
theorem vw {P}(xType)(x)(index)(commaOk):z4 P Any (Instr.lookup xType x index commaOk):=vq.1 _ _ _ _
theorem Yn {P}(mapType)(map)(key)(value):z4 P Any (Instr.mapUpdate mapType map key value):=vq.2.1 _ _ _ _
theorem qq {P}(argTypes)(_type)(args):z4 P Any (Builtin.delete_ argTypes _type args):=vq.2.2.1 _ _ _
theorem qV {P}(mapType)(map)(key):z4 P Any (Instr.mapEntry mapType map key):=vq.2.2.2 _ _ _
