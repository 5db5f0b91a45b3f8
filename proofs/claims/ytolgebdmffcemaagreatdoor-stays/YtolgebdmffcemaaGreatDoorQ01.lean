import GoSem.Step
import Derived.Laws.Sem
set_option linter.all false
set_option maxHeartbeats 20000000
set_option maxRecDepth 1000000
namespace Go.Proofs.YtolgebdmffcemaaGreatDoor
open Go
def VT:Halt→Prop
 | .panic _| .fatal _| .throw _| .unsupported _| .stuck _=>True
 |_=>False
def Qq:Halt→Prop
 | .stuck _=>True
 | .unsupported (.initOrder _)=>False
 | .unsupported _=>True
 |_=>False
def fO (m:Mark):Prop:=m≠ .disable∧m≠ .enable
def z4 (P:Program){α:Type}(F:α→Prop):Sem α→Prop
 | .pure a=>F a
 | .load _ _ k=>∀v,z4 P F (k v)
 | .store _ _ _ k=>z4 P F k
 | .new _ k=>∀r,z4 P F (k r)
 | .shape _ k=>∀s,z4 P F (k s)
 | .freeze _ _ k=>z4 P F k
 | .frozen _ k=>∀b,z4 P F (k b)
 | .getObj _ k=>∀o,z4 P F (k o)
 | .setObj _ _ k=>z4 P F k
 | .choose _ k=>∀n,z4 P F (k n)
 | .sys _ k=>(∃h,k .wouldBlock= .halt h∧Qq h)∧∀r,z4 P F (k r)
 | .program k=>z4 P F (k P)
 | .mark m k=>fO m∧z4 P F k
 | .halt h=>VT h
def Any {α:Type}(_:α):Prop:=True
section
variable {P:Program}{α β:Type}
theorem z4.mono {F G:α→Prop}(h:∀a,F a→G a):∀{s:Sem α},z4 P F s→z4 P G s:=by
 intro s;induction s with
 |pure a=>exact h a
 |load m a k ih=>exact fun x v=>ih v (x v)
 |store m a v k ih=>exact ih
 |new o k ih=>exact fun x v=>ih v (x v)
 |shape r k ih=>exact fun x v=>ih v (x v)
 |freeze a n k ih=>exact ih
 |frozen a k ih=>exact fun x v=>ih v (x v)
 |getObj r k ih=>exact fun x v=>ih v (x v)
 |setObj r o k ih=>exact ih
 |choose q k ih=>exact fun x v=>ih v (x v)
 |sys c k ih=>exact fun x=>⟨x.1,fun r=>ih r (x.2 r)⟩
 |program k ih=>exact ih P
 |mark m k ih=>exact fun x=>⟨x.1,ih x.2⟩
 |halt x=>exact id
theorem z4.bind' {F:α→Prop}{G:β→Prop}{f:α→Sem β}(hf:∀a,F a→z4 P G (f a)):∀{s:Sem α},z4 P F s→z4 P G (s.bind f):=by
 intro s;induction s with
 |pure a=>exact hf a
 |load m a k ih=>exact fun x v=>ih v (x v)
 |store m a v k ih=>exact ih
 |new o k ih=>exact fun x v=>ih v (x v)
 |shape r k ih=>exact fun x v=>ih v (x v)
 |freeze a n k ih=>exact ih
 |frozen a k ih=>exact fun x v=>ih v (x v)
 |getObj r k ih=>exact fun x v=>ih v (x v)
 |setObj r o k ih=>exact ih
 |choose q k ih=>exact fun x v=>ih v (x v)
 |sys c k ih=>exact fun x=>⟨let⟨h,h1,h2⟩:=x.1;⟨h,by show(k .wouldBlock).bind f=_;rw[h1];rfl,h2⟩,fun r=>ih r (x.2 r)⟩
 |program k ih=>exact ih P
 |mark m k ih=>exact fun x=>⟨x.1,ih x.2⟩
 |halt x=>exact id
theorem z4.bind {F:α→Prop}{G:β→Prop}{f:α→Sem β}{s:Sem α}(hs:z4 P F s)(hf:∀a,F a→z4 P G (f a)):z4 P G (s>>=f):=z4.bind' hf hs
theorem z4.bind0 {G:β→Prop}{f:α→Sem β}{s:Sem α}(hs:z4 P Any s)(hf:∀a,z4 P G (f a)):z4 P G (s>>=f):=z4.bind' (fun a _=>hf a) hs
theorem z4.map0 {f:α→β}{s:Sem α}(hs:z4 P Any s):z4 P Any (f<$>s):=by
 have h:(f<$>s)=s>>=fun a=>Pure.pure (f a):=by simp
 rw[h];exact z4.bind0 hs fun _=>by exact trivial
theorem z4.forInList {γ:Type}(f:α→γ→Sem (ForInStep γ))(h:∀a s,z4 P Any (f a s)):∀(l:List α) (a0:γ),z4 P Any (forIn l a0 f)
 |[],a0=>by simp only[List.forIn_nil];trivial
 |a::l,a0=>by
  simp only[List.forIn_cons];refine z4.bind0 (h a a0) (fun r=> ?_)
  cases r with
  |done b=>trivial
  |yield b=>exact z4.forInList f h l b
theorem z4.forInArray {γ:Type}(f:α→γ→Sem (ForInStep γ))(h:∀a s,z4 P Any (f a s))(l:Array α)(a0:γ):z4 P Any (forIn l a0 f):=by
 rw[←Array.forIn_toList];exact z4.forInList f h l.toList a0
theorem z4.forInRange {γ:Type}(f:Nat→γ→Sem (ForInStep γ))(h:∀a s,z4 P Any (f a s))(r:Std.Legacy.Range)(a0:γ):z4 P Any (forIn r a0 f):=by
 rw[Std.Legacy.Range.forIn_eq_forIn_range'];exact z4.forInList f h _ a0
theorem z4.mapMLoop (f:α→Sem β)(h:∀a,z4 P Any (f a)):∀(l:List α) (a0:List β),z4 P Any (List.mapM.loop f l a0)
 |[],a0=>trivial
 |a::l,a0=>by
  unfold List.mapM.loop;exact z4.bind0 (h a) fun b=>z4.mapMLoop f h l (b::a0)
theorem z4.mapMList (f:α→Sem β)(h:∀a,z4 P Any (f a))(l:List α):z4 P Any (l.mapM f):=z4.mapMLoop f h l []
theorem z4.mapMArray (f:α→Sem β)(h:∀a,z4 P Any (f a))(as:Array α):z4 P Any (as.mapM f):=by
 rw[Array.mapM_eq_mapM_toList];exact z4.map0 (z4.mapMList f h as.toList)
theorem z4.ite {c:Prop} [Decidable c] {F:α→Prop}{x y:Sem α}(h1:c→z4 P F x)(h2:¬c→z4 P F y):z4 P F (if c then x else y):=by
 by_cases h:c
 ·rw[if_pos h];exact h1 h
 ·rw[if_neg h];exact h2 h
theorem z4.foldlMList {γ:Type}(f:γ→α→Sem γ)(h:∀a s,z4 P Any (f s a)):∀(l:List α) (a0:γ),z4 P Any (l.foldlM f a0)
 |[],_=>trivial
 |a::l,a0=>by
  rw[List.foldlM_cons];exact z4.bind0 (h a a0) fun b=>z4.foldlMList f h l b
theorem z4.forInList' {γ:Type}:∀(l:List α) (f:(a:α)→a∈l→γ→Sem (ForInStep γ)) (_:∀a h s,z4 P Any (f a h s)) (a0:γ),z4 P Any (forIn' l a0 f)
 |[],f,h,a0=>by simp only[List.forIn'_nil];trivial
 |a::l,f,h,a0=>by
  simp only[List.forIn'_cons];refine z4.bind0 (h a _ a0) (fun r=> ?_)
  cases r with
  |done b=>trivial
  |yield b=>exact z4.forInList' l _ (fun a h' s=>h a _ s) b
theorem z4.forInRange' {γ:Type}(r:Std.Legacy.Range)(f:(a:Nat)→a∈r→γ→Sem (ForInStep γ))(h:∀a h s,z4 P Any (f a h s))(a0:γ):z4 P Any (forIn' r a0 f):=by
 rw[Std.Legacy.Range.forIn'_eq_forIn'_range'];exact z4.forInList' _ _ (fun a h' s=>h a _ s) a0
theorem ZE {F:α→Prop}(s:String):z4 P F (stuck s:Sem α):=trivial
theorem zq {F:α→Prop}(u:Unsupported):z4 P F (unsupported u:Sem α):=trivial
theorem um:z4 P (·=P) (program:Sem Program):=rfl
theorem yw (a:Addr)(m:Mode):z4 P Any (load a m):=fun _=>trivial
theorem ZQ (a:Addr)(v:Value)(m:Mode):z4 P Any (store a v m):=trivial
theorem yj (o:Obj):z4 P Any (newObj o):=fun _=>trivial
theorem yk (a:Addr):z4 P Any (frozen a):=fun _=>trivial
theorem Zh (q:Question):z4 P Any (choose q):=fun _=>trivial
theorem Gq (m:Mark)(h:fO m):z4 P Any (mark m):=⟨h,trivial⟩
theorem zi:z4 P Any (mark .noRoom):=⟨⟨by simp,by simp⟩,trivial⟩
theorem zQ:z4 P Any (program:Sem Program):=trivial
end
theorem zr {P:Program}:(∀a6,z4 P Any (askRoom a6))∧
  (∀r,z4 P Any (viewAt r))∧
  (∀r,z4 P Any (numberAt r))∧
  (∀r,z4 P Any (cellsIn r))∧
  (∀a a8,z4 P Any (asNumber a a8))∧
  (∀a,z4 P Any (markStringish a))∧
  (∀a,z4 P Any (stringish a))∧
  (∀t,z4 P Any (typeInfo t))∧
  (∀t,z4 P Any (underlying t))∧
  (∀name,z4 P Any (cutType name))∧
  (∀name,z4 P Any (globalAddr name))∧
  (∀a7 a1,z4 P Any (newRow a7 a1))∧
  (∀{α:Type} (b1:String),z4 P Any (Go.panicString b1:Sem α))∧
  (∀y1,z4 P Any (asIntOf y1))∧
  (∀y1,z4 P Any (asBool y1))∧
  (∀y1,z4 P Any (asString y1))∧
  (∀y1,z4 P Any (asAgg y1))∧
  (∀a u n,z4 P Any (variablesAt a u n))∧
  (∀k a n,z4 P Any (intVariablesAt k a n))∧
  (∀op k x y,z4 P Any (Op.floatArith op k x y))∧
  (∀op k x y,z4 P Any (Op.floatCmp op k x y))∧
  (∀op k x y,z4 P Any (Op.intArith op k x y))∧
  (∀op k x y,z4 P Any (Op.intBits op k x y))∧
  (∀op x y,z4 P Any (Op.intCmp op x y))∧
  (∀op x y,z4 P Any (Op.stringOp op x y))∧
  (∀a9 a3 a4,z4 P Any (Conv.floatToFloat a9 a3 a4))∧
  (∀a9 a3 a4,z4 P Any (Conv.floatToInt a9 a3 a4))∧
  (∀a4 n,z4 P Any (Conv.intToFloat a4 n))∧
  (∀a4 n,z4 P Any (Conv.intToInt a4 n))∧
  (∀n,z4 P Any (Conv.intToString n))∧
  (∀a a1,z4 P Any (Builtin.holdsCells a a1))∧
  (∀y1,z4 P Any (Builtin.lenOf y1))∧
  (∀y1,z4 P Any (Instr.sureAddr y1))∧
  (∀a5,z4 P Any (Instr.entry a5))∧
  (∀fn first a0,z4 P Any (Instr.makeFunc fn first a0))∧
  (∀b2 new,z4 P Any (Instr.keyThatStays b2 new))∧
  (∀a5 a2 _type,z4 P Any (Instr.next a5 a2 _type))∧
  (∀l,z4 P Any (Instr.getLoop l))∧
  (∀block,z4 P Any (Instr.takeDeferred block))∧
  (∀g,z4 P Any (Instr.waits g))∧
  (∀g,z4 P Any (Instr.ready g)):=by
 refine⟨?_,?_,?_,?_,?_,?_,?_,?_,?_,?_,?_,?_,?_,?_,?_,?_,?_,?_,?_,?_,?_,?_,?_,?_,?_,?_,?_,?_,?_,?_,?_,?_,?_,?_,?_,?_,?_,?_,?_,?_,?_⟩<;>intros<;>(first|unfold Go.askRoom|unfold Go.viewAt|unfold Go.numberAt|unfold Go.cellsIn|unfold Go.asNumber|unfold Go.markStringish|unfold Go.stringish|unfold Go.typeInfo|unfold Go.underlying|unfold Go.cutType|unfold Go.globalAddr|unfold Go.newRow|unfold Go.panicString|unfold Go.asIntOf|unfold Go.asBool|unfold Go.asString|unfold Go.asAgg|unfold Go.variablesAt|unfold Go.intVariablesAt|unfold Go.Op.floatArith|unfold Go.Op.floatCmp|unfold Go.Op.intArith|unfold Go.Op.intBits|unfold Go.Op.intCmp|unfold Go.Op.stringOp|unfold Go.Conv.floatToFloat|unfold Go.Conv.floatToInt|unfold Go.Conv.intToFloat|unfold Go.Conv.intToInt|unfold Go.Conv.intToString|unfold Go.Builtin.holdsCells|unfold Go.Builtin.lenOf|unfold Go.Instr.sureAddr|unfold Go.Instr.entry|unfold Go.Instr.makeFunc|unfold Go.Instr.keyThatStays|unfold Go.Instr.next|unfold Go.Instr.getLoop|unfold Go.Instr.takeDeferred|unfold Go.Instr.waits|unfold Go.Instr.ready)
 all_goals
  repeat' (first|exact trivial|exact fun _=>trivial|with_reducible (first|assumption|exact zi|apply z4.bind0|apply z4.map0|apply z4.forInArray|apply z4.forInRange|apply z4.forInList|apply z4.mapMArray|apply z4.mapMList|apply z4.foldlMList|apply z4.forInRange' |apply z4.ite|intro _)|split|dsimp only)
theorem Va {P}(bytes):z4 P Any (askRoom bytes):=zr.1 _
theorem xW {P}(r):z4 P Any (viewAt r):=zr.2.1 _
theorem QG {P}(r):z4 P Any (numberAt r):=zr.2.2.1 _
theorem ur {P}(r):z4 P Any (cellsIn r):=zr.2.2.2.1 _
theorem QI {P}(a)(lost):z4 P Any (asNumber a lost):=zr.2.2.2.2.1 _ _
theorem yN {P}(a):z4 P Any (markStringish a):=zr.2.2.2.2.2.1 _
theorem j5 {P}(a):z4 P Any (stringish a):=zr.2.2.2.2.2.2.1 _
theorem Za {P}(t):z4 P Any (typeInfo t):=zr.2.2.2.2.2.2.2.1 _
theorem zj {P}(t):z4 P Any (underlying t):=zr.2.2.2.2.2.2.2.2.1 _
theorem Kd {P}(name):z4 P Any (globalAddr name):=zr.2.2.2.2.2.2.2.2.2.2.1 _
theorem YK {P}(elem)(cells):z4 P Any (newRow elem cells):=zr.2.2.2.2.2.2.2.2.2.2.2.1 _ _
theorem q8 {P}(y1):z4 P Any (asIntOf y1):=zr.2.2.2.2.2.2.2.2.2.2.2.2.2.1 _
theorem kU {P}(y1):z4 P Any (asBool y1):=zr.2.2.2.2.2.2.2.2.2.2.2.2.2.2.1 _
theorem YC {P}(y1):z4 P Any (asString y1):=zr.2.2.2.2.2.2.2.2.2.2.2.2.2.2.2.1 _
theorem j8 {P}(y1):z4 P Any (asAgg y1):=zr.2.2.2.2.2.2.2.2.2.2.2.2.2.2.2.2.1 _
theorem Yo {P}(a)(u)(n):z4 P Any (variablesAt a u n):=zr.2.2.2.2.2.2.2.2.2.2.2.2.2.2.2.2.2.1 _ _ _
theorem Qs {P}(k)(a)(n):z4 P Any (intVariablesAt k a n):=zr.2.2.2.2.2.2.2.2.2.2.2.2.2.2.2.2.2.2.1 _ _ _
theorem xA {P}(op)(k)(x)(y):z4 P Any (Op.floatArith op k x y):=zr.2.2.2.2.2.2.2.2.2.2.2.2.2.2.2.2.2.2.2.1 _ _ _ _
theorem Xq {P}(op)(k)(x)(y):z4 P Any (Op.floatCmp op k x y):=zr.2.2.2.2.2.2.2.2.2.2.2.2.2.2.2.2.2.2.2.2.1 _ _ _ _
theorem jb {P}(op)(x)(y):z4 P Any (Op.intCmp op x y):=zr.2.2.2.2.2.2.2.2.2.2.2.2.2.2.2.2.2.2.2.2.2.2.2.1 _ _ _
theorem Xp {P}(op)(x)(y):z4 P Any (Op.stringOp op x y):=zr.2.2.2.2.2.2.2.2.2.2.2.2.2.2.2.2.2.2.2.2.2.2.2.2.1 _ _ _
theorem Ya {P}(src)(bits)(dst):z4 P Any (Conv.floatToFloat src bits dst):=zr.2.2.2.2.2.2.2.2.2.2.2.2.2.2.2.2.2.2.2.2.2.2.2.2.2.1 _ _ _
theorem qQ {P}(src)(bits)(dst):z4 P Any (Conv.floatToInt src bits dst):=zr.2.2.2.2.2.2.2.2.2.2.2.2.2.2.2.2.2.2.2.2.2.2.2.2.2.2.1 _ _ _
theorem XA {P}(a)(cells):z4 P Any (Builtin.holdsCells a cells):=zr.2.2.2.2.2.2.2.2.2.2.2.2.2.2.2.2.2.2.2.2.2.2.2.2.2.2.2.2.2.2.1 _ _
theorem vq {P}(y1):z4 P Any (Builtin.lenOf y1):=zr.2.2.2.2.2.2.2.2.2.2.2.2.2.2.2.2.2.2.2.2.2.2.2.2.2.2.2.2.2.2.2.1 _
theorem yA {P}(y1):z4 P Any (Instr.sureAddr y1):=zr.2.2.2.2.2.2.2.2.2.2.2.2.2.2.2.2.2.2.2.2.2.2.2.2.2.2.2.2.2.2.2.2.1 _
theorem kh {P}(iter):z4 P Any (Instr.entry iter):=zr.2.2.2.2.2.2.2.2.2.2.2.2.2.2.2.2.2.2.2.2.2.2.2.2.2.2.2.2.2.2.2.2.2.1 _
theorem Qv {P}(fn)(first)(captured):z4 P Any (Instr.makeFunc fn first captured):=zr.2.2.2.2.2.2.2.2.2.2.2.2.2.2.2.2.2.2.2.2.2.2.2.2.2.2.2.2.2.2.2.2.2.2.1 _ _ _
theorem Xt {P}(old)(new):z4 P Any (Instr.keyThatStays old new):=zr.2.2.2.2.2.2.2.2.2.2.2.2.2.2.2.2.2.2.2.2.2.2.2.2.2.2.2.2.2.2.2.2.2.2.2.1 _ _
theorem Kj {P}(iter)(isString)(_type):z4 P Any (Instr.next iter isString _type):=zr.2.2.2.2.2.2.2.2.2.2.2.2.2.2.2.2.2.2.2.2.2.2.2.2.2.2.2.2.2.2.2.2.2.2.2.2.1 _ _ _
theorem yP {P}(l):z4 P Any (Instr.getLoop l):=zr.2.2.2.2.2.2.2.2.2.2.2.2.2.2.2.2.2.2.2.2.2.2.2.2.2.2.2.2.2.2.2.2.2.2.2.2.2.1 _
theorem yZ {P}(block):z4 P Any (Instr.takeDeferred block):=zr.2.2.2.2.2.2.2.2.2.2.2.2.2.2.2.2.2.2.2.2.2.2.2.2.2.2.2.2.2.2.2.2.2.2.2.2.2.2.1 _
theorem kd {P}(g):z4 P Any (Instr.waits g):=zr.2.2.2.2.2.2.2.2.2.2.2.2.2.2.2.2.2.2.2.2.2.2.2.2.2.2.2.2.2.2.2.2.2.2.2.2.2.2.2.1 _
theorem kf {P}(g):z4 P Any (Instr.ready g):=zr.2.2.2.2.2.2.2.2.2.2.2.2.2.2.2.2.2.2.2.2.2.2.2.2.2.2.2.2.2.2.2.2.2.2.2.2.2.2.2.2 _
theorem vd {P:Program}(a:Addr)(i:Nat)(y1:Nat)(y2:Array Value):z4 P Any (Go.loadCellsFrom a i y1 y2):=by
 induction y1 generalizing i y2 with
 |zero=> ?_
 |succ n ih=> ?_
 all_goals
  unfold Go.loadCellsFrom;repeat' (first|exact trivial|exact fun _=>trivial|with_reducible (first|assumption|exact zi|exact ih _ _|apply z4.bind0|apply z4.map0|apply z4.forInArray|apply z4.forInRange|apply z4.forInList|apply z4.mapMArray|apply z4.mapMList|apply z4.foldlMList|apply z4.forInRange' |apply z4.ite|intro _)|split|dsimp only)
theorem YX {P:Program}(a:Addr)(vs:List Value)(i:Nat):z4 P Any (Go.storeCells a vs i):=by
 induction vs generalizing i with
 |nil=> ?_
 |cons x l ih=> ?_
 all_goals
  unfold Go.storeCells;repeat' (first|exact trivial|exact fun _=>trivial|with_reducible (first|assumption|exact zi|exact ih _|apply z4.bind0|apply z4.map0|apply z4.forInArray|apply z4.forInRange|apply z4.forInList|apply z4.mapMArray|apply z4.mapMList|apply z4.foldlMList|apply z4.forInRange' |apply z4.ite|intro _)|split|dsimp only)
theorem j7 {P:Program}(a:Addr)(a0:ByteArray)(y1:Nat):z4 P Any (Go.loadBytes a a0 y1):=by
 induction y1 generalizing a a0 with
 |zero=> ?_
 |succ n ih=> ?_
 all_goals
  unfold Go.loadBytes;repeat' (first|exact trivial|exact fun _=>trivial|with_reducible (first|assumption|exact zi|exact ih _ _|apply z4.bind0|apply z4.map0|apply z4.forInArray|apply z4.forInRange|apply z4.forInList|apply z4.mapMArray|apply z4.mapMList|apply z4.foldlMList|apply z4.forInRange' |apply z4.ite|intro _)|split|dsimp only)
theorem qz {P:Program}(_argTypes:Array TypeId)(_type:TypeId)(args:Array Value):z4 P Any (Go.Builtin.complex_ _argTypes _type args):=by
 unfold Go.Builtin.complex_;obtain⟨l⟩:=args;rcases l with _|⟨a,_|⟨b,_|⟨c,l⟩⟩⟩
 ·exact trivial
 ·exact trivial
 ·cases a<;>first|exact trivial|(cases b<;>first|exact trivial|exact z4.ite (fun _=>trivial) (fun _=>trivial))
 ·exact trivial
theorem vr {P:Program}(_argTypes:Array TypeId)(_type:TypeId)(args:Array Value):z4 P Any (Go.Builtin.imag_ _argTypes _type args):=by
 unfold Go.Builtin.imag_;obtain⟨l⟩:=args;rcases l with _|⟨a,_|⟨b,_|⟨c,_|⟨d,l⟩⟩⟩⟩
 all_goals first
  |exact trivial
  |(cases a<;>first|exact trivial|skip)
 all_goals(try rename_i o;cases o)
 all_goals try(first|exact trivial|refine z4.bind0 ?_ (fun _=> ?_)|refine z4.ite (fun _=> ?_) (fun _=> ?_))
 all_goals
  repeat' (first|exact trivial|exact fun _=>trivial|with_reducible (first|assumption|exact zi|apply z4.bind0|apply z4.map0|apply z4.forInArray|apply z4.forInRange|apply z4.forInList|apply z4.mapMArray|apply z4.mapMList|apply z4.foldlMList|apply z4.forInRange' |apply z4.ite|intro _)|split|dsimp only)
theorem vp {P:Program}(_argTypes:Array TypeId)(_type:TypeId)(args:Array Value):z4 P Any (Go.Builtin.real_ _argTypes _type args):=by
 unfold Go.Builtin.real_;obtain⟨l⟩:=args;rcases l with _|⟨a,_|⟨b,_|⟨c,_|⟨d,l⟩⟩⟩⟩
 all_goals first
  |exact trivial
  |(cases a<;>first|exact trivial|skip)
 all_goals(try rename_i o;cases o)
 all_goals try(first|exact trivial|refine z4.bind0 ?_ (fun _=> ?_)|refine z4.ite (fun _=> ?_) (fun _=> ?_))
 all_goals
  repeat' (first|exact trivial|exact fun _=>trivial|with_reducible (first|assumption|exact zi|apply z4.bind0|apply z4.map0|apply z4.forInArray|apply z4.forInRange|apply z4.forInList|apply z4.mapMArray|apply z4.mapMList|apply z4.foldlMList|apply z4.forInRange' |apply z4.ite|intro _)|split|dsimp only)
theorem Qt {P:Program}:z4 P Any (Go.Instr.panicnil):=by
 unfold Go.Instr.panicnil;refine⟨⟨_,rfl,trivial⟩,fun r=> ?_⟩
 cases r<;>exact trivial
theorem zD {P:Program}:(∀n,z4 P Any (behindNumber n))∧
  (∀a,z4 P Any (noView a))∧
  (∀a b,z4 P Any (mayBeOne a b))∧
  (∀t,z4 P Any (typeStr t))∧
  (∀t,z4 P Any (zeroValue t))∧
  (∀t,z4 P Any (sizeOf t))∧
  (∀t,z4 P Any (isAgg t))∧
  (∀a n,z4 P Any (loadCells a n))∧
  (∀t v,z4 P Any (newVar t v))∧
  (∀t,z4 P Any (elemOf t))∧
  (∀v,z4 P Any (asInt v))∧
  (∀a n,z4 P Any (byteVariablesAt a n))∧
  (∀a b,z4 P Any (storeBytes a b))∧
  (∀op x,z4 P Any (Op.unary op x))∧
  (∀a3 s,z4 P Any (Conv.stringToBytes a3 s))∧
  (∀a3 s,z4 P Any (Conv.stringToRunes a3 s))∧
  (∀a,z4 P Any (Conv.seenAt a))∧
  (∀size a8 n base x,z4 P Any (Builtin.mayShare size a8 n base x))∧
  (∀argTypes _type args,z4 P Any (Builtin.cap_ argTypes _type args))∧
  (∀argTypes _type args,z4 P Any (Builtin.len_ argTypes _type args))∧
  (∀y1 y2,z4 P Any (Builtin.max2 y1 y2))∧
  (∀y1 y2,z4 P Any (Builtin.min2 y1 y2))∧
  (∀t v,z4 P Any (Builtin.printOne t v))∧
  (∀a0 x,z4 P Any (Instr.makeInterface a0 x))∧
  (∀a0 x,z4 P Any (Instr.range a0 x))∧
  (∀fn tmps a4 a2 a5 a1,z4 P Any (Instr.enterLoop fn tmps a4 a2 a5 a1))∧
  (∀l args,z4 P Any (Instr.yield l args))∧
  (∀l a7,z4 P Any (Instr.endRound l a7))∧
  (∀l d,z4 P Any (Instr.deferInRound l d))∧
  (∀op k x y,z4 P Any (Op.Complex.arith op k x y))∧
  (∀op k x y,z4 P Any (Op.Complex.cmp op k x y))∧
  (∀a9 x a6,z4 P Any (Op.Complex.conv a9 x a6))∧
  (∀a9 re im a6,z4 P Any (Conv.complexToComplex a9 re im a6)):=by
 refine⟨?_,?_,?_,?_,?_,?_,?_,?_,?_,?_,?_,?_,?_,?_,?_,?_,?_,?_,?_,?_,?_,?_,?_,?_,?_,?_,?_,?_,?_,?_,?_,?_,?_⟩<;>intros<;>(first|unfold Go.behindNumber|unfold Go.noView|unfold Go.mayBeOne|unfold Go.typeStr|unfold Go.zeroValue|unfold Go.sizeOf|unfold Go.isAgg|unfold Go.loadCells|unfold Go.newVar|unfold Go.elemOf|unfold Go.asInt|unfold Go.byteVariablesAt|unfold Go.storeBytes|unfold Go.Op.unary|unfold Go.Conv.stringToBytes|unfold Go.Conv.stringToRunes|unfold Go.Conv.seenAt|unfold Go.Builtin.mayShare|unfold Go.Builtin.cap_|unfold Go.Builtin.len_|unfold Go.Builtin.max2|unfold Go.Builtin.min2|unfold Go.Builtin.printOne|unfold Go.Instr.makeInterface|unfold Go.Instr.range|unfold Go.Instr.enterLoop|unfold Go.Instr.yield|unfold Go.Instr.endRound|unfold Go.Instr.deferInRound|unfold Go.Op.Complex.arith|unfold Go.Op.Complex.cmp|unfold Go.Op.Complex.conv|unfold Go.Conv.complexToComplex)
 all_goals
  repeat' (first|exact trivial|exact fun _=>trivial|with_reducible (first|assumption|exact zi|exact(QG _)|exact(xW _)|exact(j5 _)|exact(Za _)|exact(zj _)|exact(vd _ _ _ _)|exact(YK _ _)|exact(q8 _)|exact(Qs _ _ _)|exact(YX _ _ _)|exact(mild_Op_intArith _ _ _ _)|exact(mild_Op_intBits _ _ _ _)|exact(yN _)|exact(XA _ _)|exact(Xp _ _ _)|exact(kU _)|exact(yP _)|exact(xA _ _ _ _)|exact(Xq _ _ _ _)|exact(Ya _ _ _)|apply z4.bind0|apply z4.map0|apply z4.forInArray|apply z4.forInRange|apply z4.forInList|apply z4.mapMArray|apply z4.mapMList|apply z4.foldlMList|apply z4.forInRange' |apply z4.ite|intro _)|split|dsimp only)
theorem y7 {P}(n):z4 P Any (behindNumber n):=zD.1 _
theorem kQ {P}(a):z4 P Any (noView a):=zD.2.1 _
theorem QH {P}(a)(b):z4 P Any (mayBeOne a b):=zD.2.2.1 _ _
theorem XZ {P}(t):z4 P Any (typeStr t):=zD.2.2.2.1 _
theorem yh {P}(t):z4 P Any (zeroValue t):=zD.2.2.2.2.1 _
theorem Zm {P}(t):z4 P Any (sizeOf t):=zD.2.2.2.2.2.1 _
theorem OJ {P}(t):z4 P Any (isAgg t):=zD.2.2.2.2.2.2.1 _
theorem j6 {P}(a)(n):z4 P Any (loadCells a n):=zD.2.2.2.2.2.2.2.1 _ _
theorem xX {P}(t)(v):z4 P Any (newVar t v):=zD.2.2.2.2.2.2.2.2.1 _ _
theorem yl {P}(t):z4 P Any (elemOf t):=zD.2.2.2.2.2.2.2.2.2.1 _
theorem yO {P}(v):z4 P Any (asInt v):=zD.2.2.2.2.2.2.2.2.2.2.1 _
theorem jP {P}(op)(x):z4 P Any (Op.unary op x):=zD.2.2.2.2.2.2.2.2.2.2.2.2.2.1 _ _
theorem Xx {P}(elem)(s):z4 P Any (Conv.stringToBytes elem s):=zD.2.2.2.2.2.2.2.2.2.2.2.2.2.2.1 _ _
theorem Xw {P}(elem)(s):z4 P Any (Conv.stringToRunes elem s):=zD.2.2.2.2.2.2.2.2.2.2.2.2.2.2.2.1 _ _
theorem kl {P}(a):z4 P Any (Conv.seenAt a):=zD.2.2.2.2.2.2.2.2.2.2.2.2.2.2.2.2.1 _
theorem qy {P}(size)(sLen)(n)(base)(x):z4 P Any (Builtin.mayShare size sLen n base x):=zD.2.2.2.2.2.2.2.2.2.2.2.2.2.2.2.2.2.1 _ _ _ _ _
theorem Vk {P}(argTypes)(_type)(args):z4 P Any (Builtin.cap_ argTypes _type args):=zD.2.2.2.2.2.2.2.2.2.2.2.2.2.2.2.2.2.2.1 _ _ _
theorem y8 {P}(argTypes)(_type)(args):z4 P Any (Builtin.len_ argTypes _type args):=zD.2.2.2.2.2.2.2.2.2.2.2.2.2.2.2.2.2.2.2.1 _ _ _
theorem Vj {P}(y1)(y2):z4 P Any (Builtin.max2 y1 y2):=zD.2.2.2.2.2.2.2.2.2.2.2.2.2.2.2.2.2.2.2.2.1 _ _
theorem Vh {P}(y1)(y2):z4 P Any (Builtin.min2 y1 y2):=zD.2.2.2.2.2.2.2.2.2.2.2.2.2.2.2.2.2.2.2.2.2.1 _ _
theorem qx {P}(t)(v):z4 P Any (Builtin.printOne t v):=zD.2.2.2.2.2.2.2.2.2.2.2.2.2.2.2.2.2.2.2.2.2.2.1 _ _
theorem Xc {P}(xType)(x):z4 P Any (Instr.makeInterface xType x):=zD.2.2.2.2.2.2.2.2.2.2.2.2.2.2.2.2.2.2.2.2.2.2.2.1 _ _
theorem kg {P}(xType)(x):z4 P Any (Instr.range xType x):=zD.2.2.2.2.2.2.2.2.2.2.2.2.2.2.2.2.2.2.2.2.2.2.2.2.1 _ _
theorem YN {P}(fn)(tmps)(params)(assign)(body)(around):z4 P Any (Instr.enterLoop fn tmps params assign body around):=zD.2.2.2.2.2.2.2.2.2.2.2.2.2.2.2.2.2.2.2.2.2.2.2.2.2.1 _ _ _ _ _ _
theorem x9 {P}(l)(jump):z4 P Any (Instr.endRound l jump):=zD.2.2.2.2.2.2.2.2.2.2.2.2.2.2.2.2.2.2.2.2.2.2.2.2.2.2.2.1 _ _
theorem y_ {P}(l)(d):z4 P Any (Instr.deferInRound l d):=zD.2.2.2.2.2.2.2.2.2.2.2.2.2.2.2.2.2.2.2.2.2.2.2.2.2.2.2.2.1 _ _
theorem zT {P}(op)(k)(x)(y):z4 P Any (Op.Complex.arith op k x y):=zD.2.2.2.2.2.2.2.2.2.2.2.2.2.2.2.2.2.2.2.2.2.2.2.2.2.2.2.2.2.1 _ _ _ _
theorem qO {P}(src)(x)(dst):z4 P Any (Op.Complex.conv src x dst):=zD.2.2.2.2.2.2.2.2.2.2.2.2.2.2.2.2.2.2.2.2.2.2.2.2.2.2.2.2.2.2.2.1 _ _ _
theorem xC {P}(src)(re)(im)(dst):z4 P Any (Conv.complexToComplex src re im dst):=zD.2.2.2.2.2.2.2.2.2.2.2.2.2.2.2.2.2.2.2.2.2.2.2.2.2.2.2.2.2.2.2.2 _ _ _ _
theorem Zf {P:Program}:(∀n,z4 P Any (backFromNumber n))∧
  (∀a b,z4 P Any (sameAddr a b))∧
  (∀t a,z4 P Any (loadVar t a))∧
  (∀t a v,z4 P Any (storeVar t a v))∧
  (∀t cs off,z4 P Any (part t cs off))∧
  (∀{α:Type} (e:RuntimeError),z4 P Any (Go.runtimePanic e:Sem α))∧
  (∀a,z4 P Any (byteOf a))∧
  (∀x,z4 P Any (Conv.bytesToString x))∧
  (∀x,z4 P Any (Conv.runesToString x))∧
  (∀a6 a5 x,z4 P Any (Conv.unsafePointer a6 a5 x))∧
  (∀size n y1,z4 P Any (Builtin.firstCells size n y1))∧
  (∀argTypes _type args,z4 P Any (Builtin.clear_ argTypes _type args))∧
  (∀_argTypes _type args,z4 P Any (Builtin.max_ _argTypes _type args))∧
  (∀_argTypes _type args,z4 P Any (Builtin.min_ _argTypes _type args))∧
  (∀ln a2 argTypes args,z4 P Any (Builtin.pieces ln a2 argTypes args))∧
  (∀a4 v,z4 P Any (Instr.box a4 v))∧
  (∀t a0,z4 P Any (Instr.build t a0))∧
  (∀t len a0,z4 P Any (Instr.buildSlice t len a0))∧
  (∀t a1,z4 P Any (Instr.makeMap t a1))∧
  (∀_mapType map a3 value,z4 P Any (Instr.entryStore _mapType map a3 value)):=by
 refine⟨?_,?_,?_,?_,?_,?_,?_,?_,?_,?_,?_,?_,?_,?_,?_,?_,?_,?_,?_,?_⟩<;>intros<;>(first|unfold Go.backFromNumber|unfold Go.sameAddr|unfold Go.loadVar|unfold Go.storeVar|unfold Go.part|unfold Go.runtimePanic|unfold Go.byteOf|unfold Go.Conv.bytesToString|unfold Go.Conv.runesToString|unfold Go.Conv.unsafePointer|unfold Go.Builtin.firstCells|unfold Go.Builtin.clear_|unfold Go.Builtin.max_|unfold Go.Builtin.min_|unfold Go.Builtin.pieces|unfold Go.Instr.box|unfold Go.Instr.build|unfold Go.Instr.buildSlice|unfold Go.Instr.makeMap|unfold Go.Instr.entryStore)
 all_goals
  repeat' (first|exact trivial|exact fun _=>trivial|with_reducible (first|assumption|exact zi|exact(y7 _)|exact(QH _ _)|exact(kQ _)|exact(OJ _)|exact(j6 _ _)|exact(Zm _)|exact(YX _ _ _)|exact(yl _)|exact(xX _ _)|exact(kl _)|exact(QI _ _)|exact(ur _)|exact(zj _)|exact(Yo _ _ _)|exact(yh _)|exact(Vj _ _)|exact(Vh _ _)|exact(qx _ _)|exact(YK _ _)|exact(yO _)|apply z4.bind0|apply z4.map0|apply z4.forInArray|apply z4.forInRange|apply z4.forInList|apply z4.mapMArray|apply z4.mapMList|apply z4.foldlMList|apply z4.forInRange' |apply z4.ite|intro _)|split|dsimp only)
theorem QF {P}(a)(b):z4 P Any (sameAddr a b):=Zf.2.1 _ _
theorem X_ {P}(t)(a):z4 P Any (loadVar t a):=Zf.2.2.1 _ _
theorem jN {P}(t)(a)(v):z4 P Any (storeVar t a v):=Zf.2.2.2.1 _ _ _
theorem Yp {P}(t)(cs)(off):z4 P Any (part t cs off):=Zf.2.2.2.2.1 _ _ _
theorem zy {P:Program}{α:Type}(e:RuntimeError):z4 P Any (Go.runtimePanic e:Sem α):=Zf.2.2.2.2.2.1 _
theorem kT {P}(a):z4 P Any (byteOf a):=Zf.2.2.2.2.2.2.1 _
theorem Xz {P}(x):z4 P Any (Conv.bytesToString x):=Zf.2.2.2.2.2.2.2.1 _
theorem Xy {P}(x):z4 P Any (Conv.runesToString x):=Zf.2.2.2.2.2.2.2.2.1 _
theorem Xv {P}(src)(dst)(x):z4 P Any (Conv.unsafePointer src dst x):=Zf.2.2.2.2.2.2.2.2.2.1 _ _ _
theorem XB {P}(size)(n)(y1):z4 P Any (Builtin.firstCells size n y1):=Zf.2.2.2.2.2.2.2.2.2.2.1 _ _ _
theorem QA {P}(argTypes)(_type)(args):z4 P Any (Builtin.clear_ argTypes _type args):=Zf.2.2.2.2.2.2.2.2.2.2.2.1 _ _ _
theorem Vi {P}(_argTypes)(_type)(args):z4 P Any (Builtin.max_ _argTypes _type args):=Zf.2.2.2.2.2.2.2.2.2.2.2.2.1 _ _ _
theorem Vg {P}(_argTypes)(_type)(args):z4 P Any (Builtin.min_ _argTypes _type args):=Zf.2.2.2.2.2.2.2.2.2.2.2.2.2.1 _ _ _
theorem Qy {P}(ln)(consts)(argTypes)(args):z4 P Any (Builtin.pieces ln consts argTypes args):=Zf.2.2.2.2.2.2.2.2.2.2.2.2.2.2.1 _ _ _ _
theorem jd {P}(elem)(v):z4 P Any (Instr.box elem v):=Zf.2.2.2.2.2.2.2.2.2.2.2.2.2.2.2.1 _ _
theorem ki {P}(t)(parts):z4 P Any (Instr.build t parts):=Zf.2.2.2.2.2.2.2.2.2.2.2.2.2.2.2.2.1 _ _
theorem qw {P}(t)(len)(parts):z4 P Any (Instr.buildSlice t len parts):=Zf.2.2.2.2.2.2.2.2.2.2.2.2.2.2.2.2.2.1 _ _ _
theorem vg {P}(t)(reserve):z4 P Any (Instr.makeMap t reserve):=Zf.2.2.2.2.2.2.2.2.2.2.2.2.2.2.2.2.2.2.1 _ _
theorem qv {P}(_mapType)(map)(stamp)(value):z4 P Any (Instr.entryStore _mapType map stamp value):=Zf.2.2.2.2.2.2.2.2.2.2.2.2.2.2.2.2.2.2.2 _ _ _ _
theorem ZK {P:Program}(_argTypes:Array TypeId)(_type:TypeId)(args:Array Value):z4 P Any (Go.Builtin.unsafeAdd_ _argTypes _type args):=by
 unfold Go.Builtin.unsafeAdd_;obtain⟨l⟩:=args;rcases l with _|⟨a,_|⟨b,_|⟨c,_|⟨d,l⟩⟩⟩⟩
 all_goals first
  |exact trivial
  |(cases a<;>first|exact trivial|skip)
 all_goals(try rename_i o;cases o)
 all_goals try(first|exact trivial|refine z4.bind0 ?_ (fun _=> ?_)|refine z4.ite (fun _=> ?_) (fun _=> ?_))
 all_goals
  repeat' (first|exact trivial|exact fun _=>trivial|with_reducible (first|assumption|exact zi|exact(y8 _ _ _)|exact(yO _)|exact(xW _)|apply z4.bind0|apply z4.map0|apply z4.forInArray|apply z4.forInRange|apply z4.forInList|apply z4.mapMArray|apply z4.mapMList|apply z4.foldlMList|apply z4.forInRange' |apply z4.ite|intro _)|split|dsimp only)
theorem YO {P:Program}(_argTypes:Array TypeId)(a0:TypeId)(args:Array Value):z4 P Any (Go.Builtin.unsafeSliceData_ _argTypes a0 args):=by
 unfold Go.Builtin.unsafeSliceData_;obtain⟨l⟩:=args;rcases l with _|⟨a,_|⟨b,l⟩⟩
 ·exact trivial
 ·cases a with
  |slice base n c=>
   cases base with
   |none=>exact trivial
   |some a=>
    refine z4.ite (fun _=>trivial) (fun _=> ?_);refine z4.bind0 (xW _) (fun _=>z4.ite (fun _=>trivial) (fun _=> ?_));exact z4.bind0 (yl _) fun _=>z4.bind0 (yj _) fun _=>trivial
  |_=>exact trivial
 ·exact trivial
theorem Yr {P:Program}(_argTypes:Array TypeId)(a0:TypeId)(args:Array Value):z4 P Any (Go.Builtin.unsafeStringData_ _argTypes a0 args):=by
 unfold Go.Builtin.unsafeStringData_;obtain⟨l⟩:=args;rcases l with _|⟨a,_|⟨b,_|⟨c,_|⟨d,l⟩⟩⟩⟩
 all_goals first
  |exact trivial
  |(cases a<;>first|exact trivial|skip)
 all_goals(try rename_i o;cases o)
 all_goals try(first|exact trivial|refine z4.bind0 ?_ (fun _=> ?_)|refine z4.ite (fun _=> ?_) (fun _=> ?_))
 all_goals
  repeat' (first|exact trivial|exact fun _=>trivial|with_reducible (first|assumption|exact zi|exact(yl _)|exact(yN _)|exact(YK _ _)|apply z4.bind0|apply z4.map0|apply z4.forInArray|apply z4.forInRange|apply z4.forInList|apply z4.mapMArray|apply z4.mapMList|apply z4.foldlMList|apply z4.forInRange' |apply z4.ite|intro _)|split|dsimp only)
theorem x8 {P:Program}(x y:Nat):z4 P Any (Go.Op.Complex.add x y):=zT _ _ _ _
theorem x5 {P:Program}(x y:Nat):z4 P Any (Go.Op.Complex.sub x y):=zT _ _ _ _
theorem x7 {P:Program}(x y:Nat):z4 P Any (Go.Op.Complex.mul x y):=zT _ _ _ _
theorem x6 {P:Program}(x y:Nat):z4 P Any (Go.Op.Complex.quo x y):=zT _ _ _ _
theorem zU {P:Program}:(∀y1 y2,z4 P Any (samePointer y1 y2))∧
  (∀{α:Type} (k:IntKind) (x y:Int) (a8:BoundsCode),z4 P Any (Go.boundsPanic k x y a8:Sem α))∧
  (∀y1,z4 P Any (asAddr y1))∧
  (∀base a5 a4,z4 P Any (partAt base a5 a4))∧
  (∀a b,z4 P Any (Op.twoPlaces a b))∧
  (∀k a n,z4 P Any (Op.addrMod k a n))∧
  (∀op k x y,z4 P Any (Op.intDiv op k x y))∧
  (∀op k x _yk y,z4 P Any (Op.shift op k x _yk y))∧
  (∀argTypes _type args,z4 P Any (Builtin.append_ argTypes _type args))∧
  (∀argTypes _type args,z4 P Any (Builtin.copy_ argTypes _type args))∧
  (∀t a3,z4 P Any (Instr.loadAt t a3))∧
  (∀t a3 val,z4 P Any (Instr.storeAt t a3 val))∧
  (∀b1 x,z4 P Any (Instr.arrayAt b1 x))∧
  (∀a9 heap b2,z4 P Any (Instr.alloc a9 heap b2))∧
  (∀a1 x a6,z4 P Any (Instr.field a1 x a6))∧
  (∀t size,z4 P Any (Instr.makeChan t size))∧
  (∀t len cap,z4 P Any (Instr.makeSlice t len cap))∧
  (∀t y1,z4 P Any (Place.get t y1))∧
  (∀x,z4 P Any (Instr.panic x))∧
  (∀l,z4 P Any (Instr.beginRound l))∧
  (∀l,z4 P Any (Instr.endLoop l))∧
  (∀x a1 a0 a2,z4 P Any (Instr.typeAssert x a1 a0 a2))∧
  (∀a b c d,z4 P Any (Op.Complex.product a b c d))∧
  (∀a7 a b c d,z4 P Any (Op.Complex.corrected a7 a b c d)):=by
 refine⟨?_,?_,?_,?_,?_,?_,?_,?_,?_,?_,?_,?_,?_,?_,?_,?_,?_,?_,?_,?_,?_,?_,?_,?_⟩<;>intros<;>(first|unfold Go.samePointer|unfold Go.boundsPanic|unfold Go.asAddr|unfold Go.partAt|unfold Go.Op.twoPlaces|unfold Go.Op.addrMod|unfold Go.Op.intDiv|unfold Go.Op.shift|unfold Go.Builtin.append_|unfold Go.Builtin.copy_|unfold Go.Instr.loadAt|unfold Go.Instr.storeAt|unfold Go.Instr.arrayAt|unfold Go.Instr.alloc|unfold Go.Instr.field|unfold Go.Instr.makeChan|unfold Go.Instr.makeSlice|unfold Go.Place.get|unfold Go.Instr.panic|unfold Go.Instr.beginRound|unfold Go.Instr.endLoop|unfold Go.Instr.typeAssert|unfold Go.Op.Complex.product|unfold Go.Op.Complex.corrected)
 all_goals
  repeat' (first|exact trivial|exact fun _=>trivial|with_reducible (first|assumption|exact zi|exact(QF _ _)|exact(zy _)|exact(kT _)|exact(Za _)|exact(XB _ _ _)|exact(vq _)|exact(qy _ _ _ _ _)|exact(yO _)|exact(Va _)|exact(YK _ _)|exact(Zm _)|exact(YX _ _ _)|exact(zj _)|exact(yh _)|exact(yA _)|exact(X_ _ _)|exact(jN _ _ _)|exact(xX _ _)|exact(j8 _)|exact(Yp _ _ _)|exact(Qt)|exact(yP _)|exact(zT _ _ _ _)|exact(x8 _ _)|exact(x5 _ _)|exact(x7 _ _)|exact(x6 _ _)|apply z4.bind0|apply z4.map0|apply z4.forInArray|apply z4.forInRange|apply z4.forInList|apply z4.mapMArray|apply z4.mapMList|apply z4.foldlMList|apply z4.forInRange' |apply z4.ite|intro _)|split|dsimp only)
theorem V_ {P}(y1)(y2):z4 P Any (samePointer y1 y2):=zU.1 _ _
theorem Xo {P:Program}{α:Type}(k:IntKind)(x y:Int)(a0:BoundsCode):z4 P Any (Go.boundsPanic k x y a0:Sem α):=zU.2.1 _ _ _ _
theorem YL {P}(y1):z4 P Any (asAddr y1):=zU.2.2.1 _
theorem UO {P}(base)(cells)(bytes):z4 P Any (partAt base cells bytes):=zU.2.2.2.1 _ _ _
theorem Vb {P}(a)(b):z4 P Any (Op.twoPlaces a b):=zU.2.2.2.2.1 _ _
theorem Kh {P}(k)(a)(n):z4 P Any (Op.addrMod k a n):=zU.2.2.2.2.2.1 _ _ _
theorem j9 {P}(op)(k)(x)(y):z4 P Any (Op.intDiv op k x y):=zU.2.2.2.2.2.2.1 _ _ _ _
theorem jQ {P}(op)(k)(x)(_yk)(y):z4 P Any (Op.shift op k x _yk y):=zU.2.2.2.2.2.2.2.1 _ _ _ _ _
theorem qS {P}(argTypes)(_type)(args):z4 P Any (Builtin.append_ argTypes _type args):=zU.2.2.2.2.2.2.2.2.1 _ _ _
theorem vt {P}(argTypes)(_type)(args):z4 P Any (Builtin.copy_ argTypes _type args):=zU.2.2.2.2.2.2.2.2.2.1 _ _ _
theorem Vf {P}(t)(addr):z4 P Any (Instr.loadAt t addr):=zU.2.2.2.2.2.2.2.2.2.2.1 _ _
theorem ve {P}(t)(addr)(val):z4 P Any (Instr.storeAt t addr val):=zU.2.2.2.2.2.2.2.2.2.2.2.1 _ _ _
theorem vo {P}(arr)(x):z4 P Any (Instr.arrayAt arr x):=zU.2.2.2.2.2.2.2.2.2.2.2.2.1 _ _
theorem kj {P}(elem)(heap)(old):z4 P Any (Instr.alloc elem heap old):=zU.2.2.2.2.2.2.2.2.2.2.2.2.2.1 _ _ _
theorem Xu {P}(xType)(x)(field):z4 P Any (Instr.field xType x field):=zU.2.2.2.2.2.2.2.2.2.2.2.2.2.2.1 _ _ _
theorem Qw {P}(t)(size):z4 P Any (Instr.makeChan t size):=zU.2.2.2.2.2.2.2.2.2.2.2.2.2.2.2.1 _ _
theorem qP {P}(t)(len)(cap):z4 P Any (Instr.makeSlice t len cap):=zU.2.2.2.2.2.2.2.2.2.2.2.2.2.2.2.2.1 _ _ _
theorem xz {P}(t)(y1):z4 P Any (Place.get t y1):=zU.2.2.2.2.2.2.2.2.2.2.2.2.2.2.2.2.2.1 _ _
theorem Xs {P}(x):z4 P Any (Instr.panic x):=zU.2.2.2.2.2.2.2.2.2.2.2.2.2.2.2.2.2.2.1 _
theorem Ym {P}(l):z4 P Any (Instr.beginRound l):=zU.2.2.2.2.2.2.2.2.2.2.2.2.2.2.2.2.2.2.2.1 _
theorem xB {P}(l):z4 P Any (Instr.endLoop l):=zU.2.2.2.2.2.2.2.2.2.2.2.2.2.2.2.2.2.2.2.2.1 _
theorem qr {P}(x)(xType)(asserted)(commaOk):z4 P Any (Instr.typeAssert x xType asserted commaOk):=zU.2.2.2.2.2.2.2.2.2.2.2.2.2.2.2.2.2.2.2.2.2.1 _ _ _ _
theorem Xr {P}(a)(b)(c)(d):z4 P Any (Op.Complex.product a b c d):=zU.2.2.2.2.2.2.2.2.2.2.2.2.2.2.2.2.2.2.2.2.2.2.1 _ _ _ _
theorem xN {P}(scale)(a)(b)(c)(d):z4 P Any (Op.Complex.corrected scale a b c d):=zU.2.2.2.2.2.2.2.2.2.2.2.2.2.2.2.2.2.2.2.2.2.2.2 _ _ _ _ _
theorem Vc {P:Program}(y1:Nat)(y2:TypeId)(y3:Value)(y4:Value):z4 P Any (Go.Op.eqGuardIn y1 y2 y3 y4):=by
 induction y1 generalizing y2 y3 y4 with
 |zero=> ?_
 |succ n ih=> ?_
 all_goals
  unfold Go.Op.eqGuardIn;repeat' (first|exact trivial|exact fun _=>trivial|with_reducible (first|assumption|exact zi|exact(Yp _ _ _)|exact(Zm _)|exact(zj _)|exact ih _ _ _|apply z4.bind0|apply z4.map0|apply z4.forInArray|apply z4.forInRange|apply z4.forInList|apply z4.mapMArray|apply z4.mapMList|apply z4.foldlMList|apply z4.forInRange' |apply z4.ite|intro _)|split|dsimp only)
theorem Qz {P:Program}(_argTypes:Array TypeId)(_type:TypeId)(args:Array Value):z4 P Any (Go.Builtin.close_ _argTypes _type args):=by
 unfold Go.Builtin.close_;obtain⟨l⟩:=args;rcases l with _|⟨a,_|⟨b,_|⟨c,_|⟨d,l⟩⟩⟩⟩
 all_goals first
  |exact trivial
  |(cases a<;>first|exact trivial|skip)
 all_goals(try rename_i o;cases o)
 all_goals try(first|exact trivial|refine z4.bind0 ?_ (fun _=> ?_)|refine z4.ite (fun _=> ?_) (fun _=> ?_))
 all_goals
  repeat' (first|exact trivial|exact fun _=>trivial|with_reducible (first|assumption|exact zi|exact(zy _)|apply z4.bind0|apply z4.map0|apply z4.forInArray|apply z4.forInRange|apply z4.forInList|apply z4.mapMArray|apply z4.mapMList|apply z4.foldlMList|apply z4.forInRange' |apply z4.ite|intro _)|split|dsimp only)
theorem xO {P:Program}(argTypes:Array TypeId)(_type:TypeId)(args:Array Value):z4 P Any (Go.Builtin.unsafeSlice_ argTypes _type args):=by
 unfold Go.Builtin.unsafeSlice_;obtain⟨l⟩:=args;rcases l with _|⟨a,_|⟨b,_|⟨c,_|⟨d,l⟩⟩⟩⟩
 all_goals first
  |exact trivial
  |(cases a<;>first|exact trivial|skip)
 all_goals(try rename_i o;cases o)
 all_goals try(first|exact trivial|refine z4.bind0 ?_ (fun _=> ?_)|refine z4.ite (fun _=> ?_) (fun _=> ?_))
 all_goals
  repeat' (first|exact trivial|exact fun _=>trivial|with_reducible (first|assumption|exact zi|exact(y8 _ _ _)|exact(yO _)|exact(yl _)|exact(zy _)|exact(Zm _)|exact(Za _)|exact(Yo _ _ _)|exact(xW _)|apply z4.bind0|apply z4.map0|apply z4.forInArray|apply z4.forInRange|apply z4.forInList|apply z4.mapMArray|apply z4.mapMList|apply z4.foldlMList|apply z4.forInRange' |apply z4.ite|intro _)|split|dsimp only)
theorem xD {P:Program}(argTypes:Array TypeId)(_type:TypeId)(args:Array Value):z4 P Any (Go.Builtin.unsafeString_ argTypes _type args):=by
 unfold Go.Builtin.unsafeString_;obtain⟨l⟩:=args;rcases l with _|⟨a,_|⟨b,_|⟨c,_|⟨d,l⟩⟩⟩⟩
 all_goals first
  |exact trivial
  |(cases a<;>first|exact trivial|skip)
 all_goals(try rename_i o;cases o)
 all_goals try(first|exact trivial|refine z4.bind0 ?_ (fun _=> ?_)|refine z4.ite (fun _=> ?_) (fun _=> ?_))
 all_goals
  repeat' (first|exact trivial|exact fun _=>trivial|with_reducible (first|assumption|exact zi|exact(y8 _ _ _)|exact(yO _)|exact(yl _)|exact(j7 _ _ _)|exact(zy _)|exact(Yo _ _ _)|apply z4.bind0|apply z4.map0|apply z4.forInArray|apply z4.forInRange|apply z4.forInList|apply z4.mapMArray|apply z4.mapMList|apply z4.foldlMList|apply z4.forInRange' |apply z4.ite|intro _)|split|dsimp only)
theorem Qx {P:Program}(a0:Bool)(y1:Nat)(y2:TypeId)(y3:Value):z4 P Any (Go.Instr.checkKey a0 y1 y2 y3):=by
 induction y1 generalizing y2 y3 with
 |zero=> ?_
 |succ n ih=> ?_
 all_goals
  unfold Go.Instr.checkKey;repeat' (first|exact trivial|exact fun _=>trivial|with_reducible (first|assumption|exact zi|exact(Yp _ _ _)|exact(zy _)|exact(Zm _)|exact(Za _)|exact(XZ _)|exact(zj _)|exact ih _ _|apply z4.bind0|apply z4.map0|apply z4.forInArray|apply z4.forInRange|apply z4.forInList|apply z4.mapMArray|apply z4.mapMList|apply z4.foldlMList|apply z4.forInRange' |apply z4.ite|intro _)|split|dsimp only)
theorem kc {P:Program}(y1:List FieldStep)(y2:TypeId)(y3:Option Value):z4 P Any (Go.followBlind y1 y2 y3):=by
 induction y1 generalizing y2 y3 with
 |nil=> ?_
 |cons x l ih=> ?_
 all_goals
  unfold Go.followBlind;repeat' (first|exact trivial|exact fun _=>trivial|with_reducible (first|assumption|exact zi|exact(Yp _ _ _)|exact(zj _)|exact ih _ _|apply z4.bind0|apply z4.map0|apply z4.forInArray|apply z4.forInRange|apply z4.forInList|apply z4.mapMArray|apply z4.mapMList|apply z4.foldlMList|apply z4.forInRange' |apply z4.ite|intro _)|split|dsimp only)
theorem xe {P:Program}(argTypes:Array TypeId)(_type:TypeId)(args:Array Value):z4 P Any (Go.Builtin.ssaWrapNilChk_ argTypes _type args):=by
 unfold Go.Builtin.ssaWrapNilChk_;obtain⟨l⟩:=args;rcases l with _|⟨a,_|⟨b,_|⟨c,_|⟨d,l⟩⟩⟩⟩
 ·exact trivial
 ·exact trivial
 ·exact trivial
 ·cases b with
  |string s=>
   cases c with
   |string m=>
    cases a with
    |pointer o=>
     cases o with
     |some a=>exact trivial
     |none=>
      refine z4.bind0 (Zh _) (fun _=> ?_);repeat' (first|exact trivial|exact fun _=>trivial|with_reducible (first|assumption|exact zi|exact(kR _ _ _ _)|exact(zy _)|exact(Za _)|exact(zj _)|apply z4.bind0|apply z4.map0|apply z4.forInArray|apply z4.forInRange|apply z4.forInList|apply z4.mapMArray|apply z4.mapMList|apply z4.foldlMList|apply z4.forInRange' |apply z4.ite|intro _)|split|dsimp only)
    |_=>exact trivial
   |_=>exact trivial
  |_=>exact trivial
 ·exact trivial
theorem xy {P:Program}:(∀a f,z4 P Any (fieldPlace a f))∧
  (∀k a b,z4 P Any (Op.addrSub k a b))∧
  (∀op a b,z4 P Any (Op.addrCmp op a b))∧
  (∀a3 x a2,z4 P Any (Instr.index a3 x a2))∧
  (∀x y a4,z4 P Any (Instr.sliceBound x y a4))∧
  (∀a b c d,z4 P Any (Op.Complex.quotient a b c d))∧
  (∀xt x a0 a1,z4 P Any (receiverAt xt x a0 a1)):=by
 refine⟨?_,?_,?_,?_,?_,?_,?_⟩<;>intros<;>(first|unfold Go.fieldPlace|unfold Go.Op.addrSub|unfold Go.Op.addrCmp|unfold Go.Instr.index|unfold Go.Instr.sliceBound|unfold Go.Op.Complex.quotient|unfold Go.receiverAt)
 all_goals
  repeat' (first|exact trivial|exact fun _=>trivial|with_reducible (first|assumption|exact zi|exact(UO _ _ _)|exact(Zm _)|exact(Vb _ _)|exact(q8 _)|exact(Xo _ _ _ _)|exact(Yp _ _ _)|exact(zj _)|exact(zT _ _ _ _)|exact(mild_Op_Complex_cmp _ _ _ _)|exact(xN _ _ _ _ _)|exact(x8 _ _)|exact(x5 _ _)|exact(x7 _ _)|exact(x6 _ _)|exact(xe _ _ _)|exact(xz _ _)|exact(YL _)|exact(X_ _ _)|apply z4.bind0|apply z4.map0|apply z4.forInArray|apply z4.forInRange|apply z4.forInList|apply z4.mapMArray|apply z4.mapMList|apply z4.foldlMList|apply z4.forInRange' |apply z4.ite|intro _)|split|dsimp only)
theorem ql {P}(a)(f):z4 P Any (fieldPlace a f):=xy.1 _ _
theorem Kg {P}(k)(a)(b):z4 P Any (Op.addrSub k a b):=xy.2.1 _ _ _
theorem Ki {P}(op)(a)(b):z4 P Any (Op.addrCmp op a b):=xy.2.2.1 _ _ _
theorem Yq {P}(xType)(x)(index):z4 P Any (Instr.index xType x index):=xy.2.2.2.1 _ _ _
theorem qt {P}(x)(y)(code):z4 P Any (Instr.sliceBound x y code):=xy.2.2.2.2.1 _ _ _
theorem Xb {P}(a)(b)(c)(d):z4 P Any (Op.Complex.quotient a b c d):=xy.2.2.2.2.2.1 _ _ _ _
theorem qk {P}(xt)(x)(pointerReceiver)(wrapper):z4 P Any (receiverAt xt x pointerReceiver wrapper):=xy.2.2.2.2.2.2 _ _ _ _
theorem Ke {P:Program}(y1:Nat)(y2:TypeId)(y3:Value)(y4:Value):z4 P Any (Go.Op.equalIn y1 y2 y3 y4):=by
 induction y1 generalizing y2 y3 y4 with
 |zero=> ?_
 |succ n ih=> ?_
 all_goals
  unfold Go.Op.equalIn;repeat' (first|exact trivial|exact fun _=>trivial|with_reducible (first|assumption|exact zi|exact(y7 _)|exact(kT _)|exact(Yp _ _ _)|exact(zy _)|exact(QF _ _)|exact(V_ _ _)|exact(Zm _)|exact(Za _)|exact(XZ _)|exact(zj _)|exact ih _ _ _|apply z4.bind0|apply z4.map0|apply z4.forInArray|apply z4.forInRange|apply z4.forInList|apply z4.mapMArray|apply z4.mapMList|apply z4.foldlMList|apply z4.forInRange' |apply z4.ite|intro _)|split|dsimp only)
theorem jO {P:Program}(y1:Nat)(y2:TypeId)(y3:Value)(y4:String):z4 P Any (Go.nilAhead y1 y2 y3 y4):=by
 induction y1 generalizing y2 y3 y4 with
 |zero=> ?_
 |succ n ih=> ?_
 all_goals
  unfold Go.nilAhead;repeat' (first|exact trivial|exact fun _=>trivial|with_reducible (first|assumption|exact zi|exact(kc _ _ _)|exact(Za _)|exact(zj _)|exact ih _ _ _|apply z4.bind0|apply z4.map0|apply z4.forInArray|apply z4.forInRange|apply z4.forInList|apply z4.mapMArray|apply z4.mapMList|apply z4.foldlMList|apply z4.forInRange' |apply z4.ite|intro _)|split|dsimp only)
theorem Xn {P:Program}:(∀t x y,z4 P Any (Op.equal t x y))∧
  (∀a1 len cap a6 a5 a7,z4 P Any (Instr.sliceBounds a1 len cap a6 a5 a7))∧
  (∀op k xr xi yr yi,z4 P Any (Op.complexOp op k xr xi yr yi))∧
  (∀s a4 a2,z4 P Any (Instr.fieldAt s a4 a2))∧
  (∀t x a0,z4 P Any (Instr.indexAt t x a0))∧
  (∀a3 a0,z4 P Any (Instr.extract a3 a0)):=by
 refine⟨?_,?_,?_,?_,?_,?_⟩<;>intros<;>(first|unfold Go.Op.equal|unfold Go.Instr.sliceBounds|unfold Go.Op.complexOp|unfold Go.Instr.fieldAt|unfold Go.Instr.indexAt|unfold Go.Instr.extract)
 all_goals
  repeat' (first|exact trivial|exact fun _=>trivial|with_reducible (first|assumption|exact zi|exact(Ke _ _ _ _)|exact(qt _ _ _)|exact(zT _ _ _ _)|exact(mild_Op_Complex_cmp _ _ _ _)|exact(qO _ _ _)|exact(Xr _ _ _ _)|exact(Xb _ _ _ _)|exact(Xu _ _ _)|exact(yA _)|exact(ql _ _)|exact(zj _)|exact(Yq _ _ _)|exact(q8 _)|exact(Xo _ _ _ _)|exact(Zm _)|apply z4.bind0|apply z4.map0|apply z4.forInArray|apply z4.forInRange|apply z4.forInList|apply z4.mapMArray|apply z4.mapMList|apply z4.foldlMList|apply z4.forInRange' |apply z4.ite|intro _)|split|dsimp only)
theorem QJ {P}(t)(x)(y):z4 P Any (Op.equal t x y):=Xn.1 _ _ _
theorem Y9 {P}(isSlice)(len)(cap)(low)(high)(max):z4 P Any (Instr.sliceBounds isSlice len cap low high max):=Xn.2.1 _ _ _ _ _ _
theorem Vd {P}(op)(k)(xr)(xi)(yr)(yi):z4 P Any (Op.complexOp op k xr xi yr yi):=Xn.2.2.1 _ _ _ _ _ _
theorem vk {P}(s)(addr)(field):z4 P Any (Instr.fieldAt s addr field):=Xn.2.2.2.1 _ _ _
theorem vh {P}(t)(x)(index):z4 P Any (Instr.indexAt t x index):=Xn.2.2.2.2.1 _ _ _
theorem vm {P}(tuple)(index):z4 P Any (Instr.extract tuple index):=Xn.2.2.2.2.2 _ _
theorem kS {P:Program}(y1:List FieldStep)(y2:TypeId)(y3:Place):z4 P Any (Go.follow y1 y2 y3):=by
 induction y1 generalizing y2 y3 with
 |nil=> ?_
 |cons x l ih=> ?_
 all_goals
  unfold Go.follow;repeat' (first|exact trivial|exact fun _=>trivial|with_reducible (first|assumption|exact zi|exact(xz _ _)|exact(YL _)|exact(ql _ _)|exact(Yp _ _ _)|exact(zj _)|exact ih _ _|apply z4.bind0|apply z4.map0|apply z4.forInArray|apply z4.forInRange|apply z4.forInList|apply z4.mapMArray|apply z4.mapMList|apply z4.foldlMList|apply z4.forInRange' |apply z4.ite|intro _)|split|dsimp only)
theorem UQ {P:Program}:(∀a1 x a3 a2 a4,z4 P Any (Instr.slice a1 x a3 a2 a4))∧
  (∀t v path a0,z4 P Any (receiverVia t v path a0)):=by
 refine⟨?_,?_⟩<;>intros<;>(first|unfold Go.Instr.slice|unfold Go.receiverVia)
 all_goals
  repeat' (first|exact trivial|exact fun _=>trivial|with_reducible (first|assumption|exact zi|exact(Y9 _ _ _ _ _ _)|exact(YL _)|exact(Zm _)|exact(zj _)|exact(kS _ _ _)|exact(qk _ _ _ _)|apply z4.bind0|apply z4.map0|apply z4.forInArray|apply z4.forInRange|apply z4.forInList|apply z4.mapMArray|apply z4.mapMList|apply z4.foldlMList|apply z4.forInRange' |apply z4.ite|intro _)|split|dsimp only)
theorem ke {P}(xType)(x)(low)(high)(max):z4 P Any (Instr.slice xType x low high max):=UQ.1 _ _ _ _ _
theorem ka {P}(t)(v)(path)(pointerReceiver):z4 P Any (receiverVia t v path pointerReceiver):=UQ.2 _ _ _ _
theorem qu {P:Program}(a0:TypeId)(k:Value)(y1:List MapEntry)(y2:Nat):z4 P Any (Go.Instr.findAsking a0 k y1 y2):=by
 induction y1 generalizing y2 with
 |nil=> ?_
 |cons x l ih=> ?_
 all_goals
  unfold Go.Instr.findAsking;repeat' (first|exact trivial|exact fun _=>trivial|with_reducible (first|assumption|exact zi|exact(QJ _ _ _)|exact ih _|apply z4.bind0|apply z4.map0|apply z4.forInArray|apply z4.forInRange|apply z4.forInList|apply z4.mapMArray|apply z4.mapMList|apply z4.foldlMList|apply z4.forInRange' |apply z4.ite|intro _)|split|dsimp only)
theorem kR {P:Program}(y1:Nat)(y2:TypeId)(y3:Value)(y4:String):z4 P Any (Go.method y1 y2 y3 y4):=by
 induction y1 generalizing y2 y3 y4 with
 |zero=> ?_
 |succ n ih=> ?_
 all_goals
  unfold Go.method;repeat' (first|exact trivial|exact fun _=>trivial|with_reducible (first|assumption|exact zi|exact(xz _ _)|exact(kS _ _ _)|exact(qk _ _ _ _)|exact(zy _)|exact(Za _)|exact ih _ _ _|apply z4.bind0|apply z4.map0|apply z4.forInArray|apply z4.forInRange|apply z4.forInList|apply z4.mapMArray|apply z4.mapMList|apply z4.foldlMList|apply z4.forInRange' |apply z4.ite|intro _)|split|dsimp only)
theorem UP {P:Program}:(∀a0 k es,z4 P Any (Instr.findKey a0 k es))∧
  (∀t x a2 a1 a3,z4 P Any (Instr.sliceAt t x a2 a1 a3)):=by
 refine⟨?_,?_⟩<;>intros<;>(first|unfold Go.Instr.findKey|unfold Go.Instr.sliceAt)
 all_goals
  repeat' (first|exact trivial|exact fun _=>trivial|with_reducible (first|assumption|exact zi|exact(qu _ _ _ _)|exact(zj _)|exact(ke _ _ _ _ _)|exact(Y9 _ _ _ _ _ _)|exact(yA _)|exact(Zm _)|apply z4.bind0|apply z4.map0|apply z4.forInArray|apply z4.forInRange|apply z4.forInList|apply z4.mapMArray|apply z4.mapMList|apply z4.foldlMList|apply z4.forInRange' |apply z4.ite|intro _)|split|dsimp only)
theorem vi {P}(keyType)(k)(es):z4 P Any (Instr.findKey keyType k es):=UP.1 _ _ _
theorem vf {P}(t)(x)(low)(high)(max):z4 P Any (Instr.sliceAt t x low high max):=UP.2 _ _ _ _ _
theorem v_ {P:Program}:(∀a3 x a2 a1,z4 P Any (Instr.lookup a3 x a2 a1))∧
  (∀a0 map key value,z4 P Any (Instr.mapUpdate a0 map key value))∧
  (∀argTypes _type args,z4 P Any (Builtin.delete_ argTypes _type args))∧
  (∀a0 map key,z4 P Any (Instr.mapEntry a0 map key)):=by
 refine⟨?_,?_,?_,?_⟩<;>intros<;>(first|unfold Go.Instr.lookup|unfold Go.Instr.mapUpdate|unfold Go.Builtin.delete_|unfold Go.Instr.mapEntry)
 all_goals
  repeat' (first|exact trivial|exact fun _=>trivial|with_reducible (first|assumption|exact zi|exact(Qx _ _ _ _)|exact(vi _ _ _)|exact(Yq _ _ _)|exact(zj _)|exact(yh _)|exact(Xt _ _)|exact(zy _)|apply z4.bind0|apply z4.map0|apply z4.forInArray|apply z4.forInRange|apply z4.forInList|apply z4.mapMArray|apply z4.mapMList|apply z4.foldlMList|apply z4.forInRange' |apply z4.ite|intro _)|split|dsimp only)
theorem Ve {P}(xType)(x)(index)(commaOk):z4 P Any (Instr.lookup xType x index commaOk):=v_.1 _ _ _ _
theorem YM {P}(mapType)(map)(key)(value):z4 P Any (Instr.mapUpdate mapType map key value):=v_.2.1 _ _ _ _
theorem qR {P}(argTypes)(_type)(args):z4 P Any (Builtin.delete_ argTypes _type args):=v_.2.2.1 _ _ _
theorem Qu {P}(mapType)(map)(key):z4 P Any (Instr.mapEntry mapType map key):=v_.2.2.2 _ _ _
