import GoSem.Step
import Derived.Laws.Sem
import GoSem.ClaimLeaving
import Derived.Conc.Events
import Derived.Runnable
set_option linter.all false
set_option maxHeartbeats 20000000
set_option maxRecDepth 1000000
open Go renaming Program→eA,Value→eB,Event→eS,World→eX,Goroutine→eZ,Machine→hU
open Go.Builtin renaming holdsCells→eC,lenOf→eD,mayShare→eE,cap_→eF,len_→eG,max2→eH,min2→eI,printOne→eJ,firstCells→eK,clear_→eL,max_→eM,min_→eN,pieces→eO,append_→eP,copy_→eQ,delete_→eR,printMarked→eY
open Array renaming foldl_push→eT
open Bool renaming false_eq_true→eU,not_false→eV,not_true→eW
open Nat renaming le_refl→iA,le_trans→iB
namespace Go.Proofs.YtolgebdmffcemaaGreatDoor
open Go
def kC:Halt→Prop
 | .panic _| .fatal _| .throw _| .unsupported _| .stuck _=>True
 |_=>False
def QK:Halt→Prop
 | .stuck _=>True
 | .unsupported (.initOrder _)=>False
 | .unsupported _=>True
 |_=>False
def cC (m:Mark):Prop:=m≠ .disable∧m≠ .enable
def z6 (P:eA){α:Type}(F:α→Prop):Sem α→Prop
 | .pure a=>F a
 | .load _ _ k=>∀v,z6 P F (k v)
 | .store _ _ _ k=>z6 P F k
 | .new _ k=>∀r,z6 P F (k r)
 | .shape _ k=>∀s,z6 P F (k s)
 | .freeze _ _ k=>z6 P F k
 | .frozen _ k=>∀b,z6 P F (k b)
 | .getObj _ k=>∀o,z6 P F (k o)
 | .setObj _ _ k=>z6 P F k
 | .choose _ k=>∀n,z6 P F (k n)
 | .sys _ k=>(∃h,k .wouldBlock= .halt h∧QK h)∧∀r,z6 P F (k r)
 | .program k=>z6 P F (k P)
 | .mark m k=>cC m∧z6 P F k
 | .halt h=>kC h
def Any {α:Type}(_:α):Prop:=True
section
variable {P:eA}{α β:Type}
theorem z6.mono {F G:α→Prop}(h:∀a,F a→G a):∀{s:Sem α},z6 P F s→z6 P G s:=by
 intro s;induction s with
 |pure a=>exact h a
 |load m a k ih=>exact fun x v=>ih v (x v)
 |store m a v k ih=>exact ih
 |new o k ih=>exact fun x v=>ih v (x v)
 |shape r k ih=>exact fun x v=>ih v (x v)
 |freeze a n k ih=>exact ih
 |frozen a k ih=>exact fun x v=>ih v (x v)
 |getObj r k ih=>exact fun x v=>ih v (x v)
 |setObj r o k ih=>exact ih
 |choose q k ih=>exact fun x v=>ih v (x v)
 |sys c k ih=>exact fun x=>⟨x.1,fun r=>ih r (x.2 r)⟩
 |program k ih=>exact ih P
 |mark m k ih=>exact fun x=>⟨x.1,ih x.2⟩
 |halt x=>exact id
theorem z6.bind' {F:α→Prop}{G:β→Prop}{f:α→Sem β}(hf:∀a,F a→z6 P G (f a)):∀{s:Sem α},z6 P F s→z6 P G (s.bind f):=by
 intro s;induction s with
 |pure a=>exact hf a
 |load m a k ih=>exact fun x v=>ih v (x v)
 |store m a v k ih=>exact ih
 |new o k ih=>exact fun x v=>ih v (x v)
 |shape r k ih=>exact fun x v=>ih v (x v)
 |freeze a n k ih=>exact ih
 |frozen a k ih=>exact fun x v=>ih v (x v)
 |getObj r k ih=>exact fun x v=>ih v (x v)
 |setObj r o k ih=>exact ih
 |choose q k ih=>exact fun x v=>ih v (x v)
 |sys c k ih=>exact fun x=>⟨let⟨h,h1,h2⟩:=x.1;⟨h,by show(k .wouldBlock).bind f=_;rw[h1];rfl,h2⟩,fun r=>ih r (x.2 r)⟩
 |program k ih=>exact ih P
 |mark m k ih=>exact fun x=>⟨x.1,ih x.2⟩
 |halt x=>exact id
theorem z6.bind {F:α→Prop}{G:β→Prop}{f:α→Sem β}{s:Sem α}(hs:z6 P F s)(hf:∀a,F a→z6 P G (f a)):z6 P G (s>>=f):=z6.bind' hf hs
theorem z6.bind0 {G:β→Prop}{f:α→Sem β}{s:Sem α}(hs:z6 P Any s)(hf:∀a,z6 P G (f a)):z6 P G (s>>=f):=z6.bind' (fun a _=>hf a) hs
theorem z6.map0 {f:α→β}{s:Sem α}(hs:z6 P Any s):z6 P Any (f<$>s):=by
 have h:(f<$>s)=s>>=fun a=>Pure.pure (f a):=by simp
 rw[h];exact z6.bind0 hs fun _=>by exact trivial
theorem z6.forInList {γ:Type}(f:α→γ→Sem (ForInStep γ))(h:∀a s,z6 P Any (f a s)):∀(l:List α) (a0:γ),z6 P Any (forIn l a0 f)
 |[],a0=>by simp only[List.forIn_nil];trivial
 |a::l,a0=>by
  simp only[List.forIn_cons];refine z6.bind0 (h a a0) (fun r=> ?_)
  cases r with
  |done b=>trivial
  |yield b=>exact z6.forInList f h l b
theorem z6.forInArray {γ:Type}(f:α→γ→Sem (ForInStep γ))(h:∀a s,z6 P Any (f a s))(l:Array α)(a0:γ):z6 P Any (forIn l a0 f):=by
 rw[←Array.forIn_toList];exact z6.forInList f h l.toList a0
theorem z6.forInRange {γ:Type}(f:Nat→γ→Sem (ForInStep γ))(h:∀a s,z6 P Any (f a s))(r:Std.Legacy.Range)(a0:γ):z6 P Any (forIn r a0 f):=by
 rw[Std.Legacy.Range.forIn_eq_forIn_range'];exact z6.forInList f h _ a0
theorem z6.mapMLoop (f:α→Sem β)(h:∀a,z6 P Any (f a)):∀(l:List α) (a0:List β),z6 P Any (List.mapM.loop f l a0)
 |[],a0=>trivial
 |a::l,a0=>by
  unfold List.mapM.loop;exact z6.bind0 (h a) fun b=>z6.mapMLoop f h l (b::a0)
theorem z6.mapMList (f:α→Sem β)(h:∀a,z6 P Any (f a))(l:List α):z6 P Any (l.mapM f):=z6.mapMLoop f h l []
theorem z6.mapMArray (f:α→Sem β)(h:∀a,z6 P Any (f a))(as:Array α):z6 P Any (as.mapM f):=by
 rw[Array.mapM_eq_mapM_toList];exact z6.map0 (z6.mapMList f h as.toList)
theorem z6.ite {c:Prop} [Decidable c] {F:α→Prop}{x y:Sem α}(h1:c→z6 P F x)(h2:¬c→z6 P F y):z6 P F (if c then x else y):=by
 by_cases h:c
 ·rw[if_pos h];exact h1 h
 ·rw[if_neg h];exact h2 h
theorem z6.foldlMList {γ:Type}(f:γ→α→Sem γ)(h:∀a s,z6 P Any (f s a)):∀(l:List α) (a0:γ),z6 P Any (l.foldlM f a0)
 |[],_=>trivial
 |a::l,a0=>by
  rw[List.foldlM_cons];exact z6.bind0 (h a a0) fun b=>z6.foldlMList f h l b
theorem z6.forInList' {γ:Type}:∀(l:List α) (f:(a:α)→a∈l→γ→Sem (ForInStep γ)) (_:∀a h s,z6 P Any (f a h s)) (a0:γ),z6 P Any (forIn' l a0 f)
 |[],f,h,a0=>by simp only[List.forIn'_nil];trivial
 |a::l,f,h,a0=>by
  simp only[List.forIn'_cons];refine z6.bind0 (h a _ a0) (fun r=> ?_)
  cases r with
  |done b=>trivial
  |yield b=>exact z6.forInList' l _ (fun a h' s=>h a _ s) b
theorem z6.forInRange' {γ:Type}(r:Std.Legacy.Range)(f:(a:Nat)→a∈r→γ→Sem (ForInStep γ))(h:∀a h s,z6 P Any (f a h s))(a0:γ):z6 P Any (forIn' r a0 f):=by
 rw[Std.Legacy.Range.forIn'_eq_forIn'_range'];exact z6.forInList' _ _ (fun a h' s=>h a _ s) a0
theorem ZM {F:α→Prop}(s:String):z6 P F (stuck s:Sem α):=trivial
theorem zu {F:α→Prop}(u:Unsupported):z6 P F (unsupported u:Sem α):=trivial
theorem Uv:z6 P (·=P) (program:Sem eA):=rfl
theorem yJ (a:Addr)(m:Mode):z6 P Any (load a m):=fun _=>trivial
theorem Z_ (a:Addr)(v:eB)(m:Mode):z6 P Any (store a v m):=trivial
theorem yz (o:Obj):z6 P Any (newObj o):=fun _=>trivial
theorem yA (a:Addr):z6 P Any (frozen a):=fun _=>trivial
theorem Zi (q:Question):z6 P Any (choose q):=fun _=>trivial
theorem fU (m:Mark)(h:cC m):z6 P Any (mark m):=⟨h,trivial⟩
theorem zj:z6 P Any (mark .noRoom):=⟨⟨by simp,by simp⟩,trivial⟩
theorem zS:z6 P Any (program:Sem eA):=trivial
end
theorem zv {P:eA}:(∀a6,z6 P Any (askRoom a6))∧
  (∀r,z6 P Any (viewAt r))∧
  (∀r,z6 P Any (numberAt r))∧
  (∀r,z6 P Any (cellsIn r))∧
  (∀a a8,z6 P Any (asNumber a a8))∧
  (∀a,z6 P Any (markStringish a))∧
  (∀a,z6 P Any (stringish a))∧
  (∀t,z6 P Any (typeInfo t))∧
  (∀t,z6 P Any (underlying t))∧
  (∀name,z6 P Any (cutType name))∧
  (∀name,z6 P Any (globalAddr name))∧
  (∀a7 a1,z6 P Any (newRow a7 a1))∧
  (∀{α:Type} (b1:String),z6 P Any (Go.panicString b1:Sem α))∧
  (∀y1,z6 P Any (asIntOf y1))∧
  (∀y1,z6 P Any (asBool y1))∧
  (∀y1,z6 P Any (asString y1))∧
  (∀y1,z6 P Any (asAgg y1))∧
  (∀a u n,z6 P Any (variablesAt a u n))∧
  (∀k a n,z6 P Any (intVariablesAt k a n))∧
  (∀op k x y,z6 P Any (Op.floatArith op k x y))∧
  (∀op k x y,z6 P Any (Op.floatCmp op k x y))∧
  (∀op k x y,z6 P Any (Op.intArith op k x y))∧
  (∀op k x y,z6 P Any (Op.intBits op k x y))∧
  (∀op x y,z6 P Any (Op.intCmp op x y))∧
  (∀op x y,z6 P Any (Op.stringOp op x y))∧
  (∀a9 a3 a4,z6 P Any (Conv.floatToFloat a9 a3 a4))∧
  (∀a9 a3 a4,z6 P Any (Conv.floatToInt a9 a3 a4))∧
  (∀a4 n,z6 P Any (Conv.intToFloat a4 n))∧
  (∀a4 n,z6 P Any (Conv.intToInt a4 n))∧
  (∀n,z6 P Any (Conv.intToString n))∧
  (∀a a1,z6 P Any (eC a a1))∧
  (∀y1,z6 P Any (eD y1))∧
  (∀y1,z6 P Any (Instr.sureAddr y1))∧
  (∀a5,z6 P Any (Instr.entry a5))∧
  (∀fn first a0,z6 P Any (Instr.makeFunc fn first a0))∧
  (∀b2 new,z6 P Any (Instr.keyThatStays b2 new))∧
  (∀a5 a2 _type,z6 P Any (Instr.next a5 a2 _type))∧
  (∀l,z6 P Any (Instr.getLoop l))∧
  (∀block,z6 P Any (Instr.takeDeferred block))∧
  (∀g,z6 P Any (Instr.waits g))∧
  (∀g,z6 P Any (Instr.ready g)):=by
 refine⟨?_,?_,?_,?_,?_,?_,?_,?_,?_,?_,?_,?_,?_,?_,?_,?_,?_,?_,?_,?_,?_,?_,?_,?_,?_,?_,?_,?_,?_,?_,?_,?_,?_,?_,?_,?_,?_,?_,?_,?_,?_⟩<;>intros<;>(first|unfold Go.askRoom|unfold Go.viewAt|unfold Go.numberAt|unfold Go.cellsIn|unfold Go.asNumber|unfold Go.markStringish|unfold Go.stringish|unfold Go.typeInfo|unfold Go.underlying|unfold Go.cutType|unfold Go.globalAddr|unfold Go.newRow|unfold Go.panicString|unfold Go.asIntOf|unfold Go.asBool|unfold Go.asString|unfold Go.asAgg|unfold Go.variablesAt|unfold Go.intVariablesAt|unfold Go.Op.floatArith|unfold Go.Op.floatCmp|unfold Go.Op.intArith|unfold Go.Op.intBits|unfold Go.Op.intCmp|unfold Go.Op.stringOp|unfold Go.Conv.floatToFloat|unfold Go.Conv.floatToInt|unfold Go.Conv.intToFloat|unfold Go.Conv.intToInt|unfold Go.Conv.intToString|unfold Go.Builtin.holdsCells|unfold Go.Builtin.lenOf|unfold Go.Instr.sureAddr|unfold Go.Instr.entry|unfold Go.Instr.makeFunc|unfold Go.Instr.keyThatStays|unfold Go.Instr.next|unfold Go.Instr.getLoop|unfold Go.Instr.takeDeferred|unfold Go.Instr.waits|unfold Go.Instr.ready)
 all_goals
  repeat' (first|exact trivial|exact fun _=>trivial|with_reducible (first|assumption|exact zj|apply z6.bind0|apply z6.map0|apply z6.forInArray|apply z6.forInRange|apply z6.forInList|apply z6.mapMArray|apply z6.mapMList|apply z6.foldlMList|apply z6.forInRange' |apply z6.ite|intro _)|split|dsimp only)
theorem VE {P}(bytes):z6 P Any (askRoom bytes):=zv.1 _
theorem Xq {P}(r):z6 P Any (viewAt r):=zv.2.1 _
theorem v8 {P}(r):z6 P Any (numberAt r):=zv.2.2.1 _
theorem Uz {P}(r):z6 P Any (cellsIn r):=zv.2.2.2.1 _
theorem ve {P}(a)(lost):z6 P Any (asNumber a lost):=zv.2.2.2.2.1 _ _
theorem Y4 {P}(a):z6 P Any (markStringish a):=zv.2.2.2.2.2.1 _
theorem jK {P}(a):z6 P Any (stringish a):=zv.2.2.2.2.2.2.1 _
theorem Za {P}(t):z6 P Any (typeInfo t):=zv.2.2.2.2.2.2.2.1 _
theorem zk {P}(t):z6 P Any (underlying t):=zv.2.2.2.2.2.2.2.2.1 _
theorem KJ {P}(name):z6 P Any (globalAddr name):=zv.2.2.2.2.2.2.2.2.2.2.1 _
theorem YZ {P}(elem)(cells):z6 P Any (newRow elem cells):=zv.2.2.2.2.2.2.2.2.2.2.2.1 _ _
theorem qr {P}(y1):z6 P Any (asIntOf y1):=zv.2.2.2.2.2.2.2.2.2.2.2.2.2.1 _
theorem Kp {P}(y1):z6 P Any (asBool y1):=zv.2.2.2.2.2.2.2.2.2.2.2.2.2.2.1 _
theorem YQ {P}(y1):z6 P Any (asString y1):=zv.2.2.2.2.2.2.2.2.2.2.2.2.2.2.2.1 _
theorem jN {P}(y1):z6 P Any (asAgg y1):=zv.2.2.2.2.2.2.2.2.2.2.2.2.2.2.2.2.1 _
theorem YB {P}(a)(u)(n):z6 P Any (variablesAt a u n):=zv.2.2.2.2.2.2.2.2.2.2.2.2.2.2.2.2.2.1 _ _ _
theorem QN {P}(k)(a)(n):z6 P Any (intVariablesAt k a n):=zv.2.2.2.2.2.2.2.2.2.2.2.2.2.2.2.2.2.2.1 _ _ _
theorem xV {P}(op)(k)(x)(y):z6 P Any (Op.floatArith op k x y):=zv.2.2.2.2.2.2.2.2.2.2.2.2.2.2.2.2.2.2.2.1 _ _ _ _
theorem XM {P}(op)(k)(x)(y):z6 P Any (Op.floatCmp op k x y):=zv.2.2.2.2.2.2.2.2.2.2.2.2.2.2.2.2.2.2.2.2.1 _ _ _ _
theorem jP {P}(op)(x)(y):z6 P Any (Op.intCmp op x y):=zv.2.2.2.2.2.2.2.2.2.2.2.2.2.2.2.2.2.2.2.2.2.2.2.1 _ _ _
theorem XL {P}(op)(x)(y):z6 P Any (Op.stringOp op x y):=zv.2.2.2.2.2.2.2.2.2.2.2.2.2.2.2.2.2.2.2.2.2.2.2.2.1 _ _ _
theorem Yl {P}(src)(bits)(dst):z6 P Any (Conv.floatToFloat src bits dst):=zv.2.2.2.2.2.2.2.2.2.2.2.2.2.2.2.2.2.2.2.2.2.2.2.2.2.1 _ _ _
theorem Q7 {P}(src)(bits)(dst):z6 P Any (Conv.floatToInt src bits dst):=zv.2.2.2.2.2.2.2.2.2.2.2.2.2.2.2.2.2.2.2.2.2.2.2.2.2.2.1 _ _ _
theorem XW {P}(a)(cells):z6 P Any (eC a cells):=zv.2.2.2.2.2.2.2.2.2.2.2.2.2.2.2.2.2.2.2.2.2.2.2.2.2.2.2.2.2.2.1 _ _
theorem vL {P}(y1):z6 P Any (eD y1):=zv.2.2.2.2.2.2.2.2.2.2.2.2.2.2.2.2.2.2.2.2.2.2.2.2.2.2.2.2.2.2.2.1 _
theorem yO {P}(y1):z6 P Any (Instr.sureAddr y1):=zv.2.2.2.2.2.2.2.2.2.2.2.2.2.2.2.2.2.2.2.2.2.2.2.2.2.2.2.2.2.2.2.2.1 _
theorem kP {P}(iter):z6 P Any (Instr.entry iter):=zv.2.2.2.2.2.2.2.2.2.2.2.2.2.2.2.2.2.2.2.2.2.2.2.2.2.2.2.2.2.2.2.2.2.1 _
theorem QQ {P}(fn)(first)(captured):z6 P Any (Instr.makeFunc fn first captured):=zv.2.2.2.2.2.2.2.2.2.2.2.2.2.2.2.2.2.2.2.2.2.2.2.2.2.2.2.2.2.2.2.2.2.2.1 _ _ _
theorem XP {P}(old)(new):z6 P Any (Instr.keyThatStays old new):=zv.2.2.2.2.2.2.2.2.2.2.2.2.2.2.2.2.2.2.2.2.2.2.2.2.2.2.2.2.2.2.2.2.2.2.2.1 _ _
theorem KP {P}(iter)(isString)(_type):z6 P Any (Instr.next iter isString _type):=zv.2.2.2.2.2.2.2.2.2.2.2.2.2.2.2.2.2.2.2.2.2.2.2.2.2.2.2.2.2.2.2.2.2.2.2.2.1 _ _ _
theorem Y6 {P}(l):z6 P Any (Instr.getLoop l):=zv.2.2.2.2.2.2.2.2.2.2.2.2.2.2.2.2.2.2.2.2.2.2.2.2.2.2.2.2.2.2.2.2.2.2.2.2.2.1 _
theorem Yd {P}(block):z6 P Any (Instr.takeDeferred block):=zv.2.2.2.2.2.2.2.2.2.2.2.2.2.2.2.2.2.2.2.2.2.2.2.2.2.2.2.2.2.2.2.2.2.2.2.2.2.2.1 _
theorem kK {P}(g):z6 P Any (Instr.waits g):=zv.2.2.2.2.2.2.2.2.2.2.2.2.2.2.2.2.2.2.2.2.2.2.2.2.2.2.2.2.2.2.2.2.2.2.2.2.2.2.2.1 _
theorem kM {P}(g):z6 P Any (Instr.ready g):=zv.2.2.2.2.2.2.2.2.2.2.2.2.2.2.2.2.2.2.2.2.2.2.2.2.2.2.2.2.2.2.2.2.2.2.2.2.2.2.2.2 _
theorem vB {P:eA}(a:Addr)(i:Nat)(y1:Nat)(y2:Array eB):z6 P Any (Go.loadCellsFrom a i y1 y2):=by
 induction y1 generalizing i y2 with
 |zero=> ?_
 |succ n ih=> ?_
 all_goals
  unfold Go.loadCellsFrom;repeat' (first|exact trivial|exact fun _=>trivial|with_reducible (first|assumption|exact zj|exact ih _ _|apply z6.bind0|apply z6.map0|apply z6.forInArray|apply z6.forInRange|apply z6.forInList|apply z6.mapMArray|apply z6.mapMList|apply z6.foldlMList|apply z6.forInRange' |apply z6.ite|intro _)|split|dsimp only)
theorem xh {P:eA}(a:Addr)(vs:List eB)(i:Nat):z6 P Any (Go.storeCells a vs i):=by
 induction vs generalizing i with
 |nil=> ?_
 |cons x l ih=> ?_
 all_goals
  unfold Go.storeCells;repeat' (first|exact trivial|exact fun _=>trivial|with_reducible (first|assumption|exact zj|exact ih _|apply z6.bind0|apply z6.map0|apply z6.forInArray|apply z6.forInRange|apply z6.forInList|apply z6.mapMArray|apply z6.mapMList|apply z6.foldlMList|apply z6.forInRange' |apply z6.ite|intro _)|split|dsimp only)
theorem jM {P:eA}(a:Addr)(a0:ByteArray)(y1:Nat):z6 P Any (Go.loadBytes a a0 y1):=by
 induction y1 generalizing a a0 with
 |zero=> ?_
 |succ n ih=> ?_
 all_goals
  unfold Go.loadBytes;repeat' (first|exact trivial|exact fun _=>trivial|with_reducible (first|assumption|exact zj|exact ih _ _|apply z6.bind0|apply z6.map0|apply z6.forInArray|apply z6.forInRange|apply z6.forInList|apply z6.mapMArray|apply z6.mapMList|apply z6.foldlMList|apply z6.forInRange' |apply z6.ite|intro _)|split|dsimp only)
theorem qP {P:eA}(_argTypes:Array TypeId)(_type:TypeId)(args:Array eB):z6 P Any (Go.Builtin.complex_ _argTypes _type args):=by
 unfold Go.Builtin.complex_;obtain⟨l⟩:=args;rcases l with _|⟨a,_|⟨b,_|⟨c,l⟩⟩⟩
 ·exact trivial
 ·exact trivial
 ·cases a<;>first|exact trivial|(cases b<;>first|exact trivial|exact z6.ite (fun _=>trivial) (fun _=>trivial))
 ·exact trivial
theorem vM {P:eA}(_argTypes:Array TypeId)(_type:TypeId)(args:Array eB):z6 P Any (Go.Builtin.imag_ _argTypes _type args):=by
 unfold Go.Builtin.imag_;obtain⟨l⟩:=args;rcases l with _|⟨a,_|⟨b,_|⟨c,_|⟨d,l⟩⟩⟩⟩
 all_goals first
  |exact trivial
  |(cases a<;>first|exact trivial|skip)
 all_goals(try rename_i o;cases o)
 all_goals try(first|exact trivial|refine z6.bind0 ?_ (fun _=> ?_)|refine z6.ite (fun _=> ?_) (fun _=> ?_))
 all_goals
  repeat' (first|exact trivial|exact fun _=>trivial|with_reducible (first|assumption|exact zj|apply z6.bind0|apply z6.map0|apply z6.forInArray|apply z6.forInRange|apply z6.forInList|apply z6.mapMArray|apply z6.mapMList|apply z6.foldlMList|apply z6.forInRange' |apply z6.ite|intro _)|split|dsimp only)
theorem vK {P:eA}(_argTypes:Array TypeId)(_type:TypeId)(args:Array eB):z6 P Any (Go.Builtin.real_ _argTypes _type args):=by
 unfold Go.Builtin.real_;obtain⟨l⟩:=args;rcases l with _|⟨a,_|⟨b,_|⟨c,_|⟨d,l⟩⟩⟩⟩
 all_goals first
  |exact trivial
  |(cases a<;>first|exact trivial|skip)
 all_goals(try rename_i o;cases o)
 all_goals try(first|exact trivial|refine z6.bind0 ?_ (fun _=> ?_)|refine z6.ite (fun _=> ?_) (fun _=> ?_))
 all_goals
  repeat' (first|exact trivial|exact fun _=>trivial|with_reducible (first|assumption|exact zj|apply z6.bind0|apply z6.map0|apply z6.forInArray|apply z6.forInRange|apply z6.forInList|apply z6.mapMArray|apply z6.mapMList|apply z6.foldlMList|apply z6.forInRange' |apply z6.ite|intro _)|split|dsimp only)
theorem QO {P:eA}:z6 P Any (Go.Instr.panicnil):=by
 unfold Go.Instr.panicnil;refine⟨⟨_,rfl,trivial⟩,fun r=> ?_⟩
 cases r<;>exact trivial
theorem zE {P:eA}:(∀n,z6 P Any (behindNumber n))∧
  (∀a,z6 P Any (noView a))∧
  (∀a b,z6 P Any (mayBeOne a b))∧
  (∀t,z6 P Any (typeStr t))∧
  (∀t,z6 P Any (zeroValue t))∧
  (∀t,z6 P Any (sizeOf t))∧
  (∀t,z6 P Any (isAgg t))∧
  (∀a n,z6 P Any (loadCells a n))∧
  (∀t v,z6 P Any (newVar t v))∧
  (∀t,z6 P Any (elemOf t))∧
  (∀v,z6 P Any (asInt v))∧
  (∀a n,z6 P Any (byteVariablesAt a n))∧
  (∀a b,z6 P Any (storeBytes a b))∧
  (∀op x,z6 P Any (Op.unary op x))∧
  (∀a2 s,z6 P Any (Conv.stringToBytes a2 s))∧
  (∀a2 s,z6 P Any (Conv.stringToRunes a2 s))∧
  (∀a,z6 P Any (Conv.seenAt a))∧
  (∀size a5 n base x,z6 P Any (eE size a5 n base x))∧
  (∀argTypes _type args,z6 P Any (eF argTypes _type args))∧
  (∀argTypes _type args,z6 P Any (eG argTypes _type args))∧
  (∀y1 y2,z6 P Any (eH y1 y2))∧
  (∀y1 y2,z6 P Any (eI y1 y2))∧
  (∀t v,z6 P Any (eJ t v))∧
  (∀a0 x,z6 P Any (Instr.makeInterface a0 x))∧
  (∀a0 x,z6 P Any (Instr.range a0 x))∧
  (∀fn tmps params assign body a1,z6 P Any (Instr.enterLoop fn tmps params assign body a1))∧
  (∀l args,z6 P Any (Instr.yield l args))∧
  (∀l a4,z6 P Any (Instr.endRound l a4))∧
  (∀l d,z6 P Any (Instr.deferInRound l d))∧
  (∀op k x y,z6 P Any (Op.Complex.arith op k x y))∧
  (∀op k x y,z6 P Any (Op.Complex.cmp op k x y))∧
  (∀a6 x a3,z6 P Any (Op.Complex.conv a6 x a3))∧
  (∀a6 re im a3,z6 P Any (Conv.complexToComplex a6 re im a3)):=by
 refine⟨?_,?_,?_,?_,?_,?_,?_,?_,?_,?_,?_,?_,?_,?_,?_,?_,?_,?_,?_,?_,?_,?_,?_,?_,?_,?_,?_,?_,?_,?_,?_,?_,?_⟩<;>intros<;>(first|unfold Go.behindNumber|unfold Go.noView|unfold Go.mayBeOne|unfold Go.typeStr|unfold Go.zeroValue|unfold Go.sizeOf|unfold Go.isAgg|unfold Go.loadCells|unfold Go.newVar|unfold Go.elemOf|unfold Go.asInt|unfold Go.byteVariablesAt|unfold Go.storeBytes|unfold Go.Op.unary|unfold Go.Conv.stringToBytes|unfold Go.Conv.stringToRunes|unfold Go.Conv.seenAt|unfold Go.Builtin.mayShare|unfold Go.Builtin.cap_|unfold Go.Builtin.len_|unfold Go.Builtin.max2|unfold Go.Builtin.min2|unfold Go.Builtin.printOne|unfold Go.Instr.makeInterface|unfold Go.Instr.range|unfold Go.Instr.enterLoop|unfold Go.Instr.yield|unfold Go.Instr.endRound|unfold Go.Instr.deferInRound|unfold Go.Op.Complex.arith|unfold Go.Op.Complex.cmp|unfold Go.Op.Complex.conv|unfold Go.Conv.complexToComplex)
 all_goals
  repeat' (first|exact trivial|exact fun _=>trivial|with_reducible (first|assumption|exact zj|exact(v8 _)|exact(Xq _)|exact(jK _)|exact(Za _)|exact(zk _)|exact(vB _ _ _ _)|exact(YZ _ _)|exact(qr _)|exact(QN _ _ _)|exact(xh _ _ _)|exact(mild_Op_intArith _ _ _ _)|exact(mild_Op_intBits _ _ _ _)|exact(Y4 _)|exact(XW _ _)|exact(XL _ _ _)|exact(Kp _)|exact(Y6 _)|exact(xV _ _ _ _)|exact(XM _ _ _ _)|exact(Yl _ _ _)|apply z6.bind0|apply z6.map0|apply z6.forInArray|apply z6.forInRange|apply z6.forInList|apply z6.mapMArray|apply z6.mapMList|apply z6.foldlMList|apply z6.forInRange' |apply z6.ite|intro _)|split|dsimp only)
theorem yn {P}(n):z6 P Any (behindNumber n):=zE.1 _
theorem Kl {P}(a):z6 P Any (noView a):=zE.2.1 _
theorem vd {P}(a)(b):z6 P Any (mayBeOne a b):=zE.2.2.1 _ _
theorem qp {P}(t):z6 P Any (typeStr t):=zE.2.2.2.1 _
theorem yy {P}(t):z6 P Any (zeroValue t):=zE.2.2.2.2.1 _
theorem Zo {P}(t):z6 P Any (sizeOf t):=zE.2.2.2.2.2.1 _
theorem G7 {P}(t):z6 P Any (isAgg t):=zE.2.2.2.2.2.2.1 _
theorem jL {P}(a)(n):z6 P Any (loadCells a n):=zE.2.2.2.2.2.2.2.1 _ _
theorem Xr {P}(t)(v):z6 P Any (newVar t v):=zE.2.2.2.2.2.2.2.2.1 _ _
theorem yB {P}(t):z6 P Any (elemOf t):=zE.2.2.2.2.2.2.2.2.2.1 _
theorem Y5 {P}(v):z6 P Any (asInt v):=zE.2.2.2.2.2.2.2.2.2.2.1 _
theorem Ju {P}(op)(x):z6 P Any (Op.unary op x):=zE.2.2.2.2.2.2.2.2.2.2.2.2.2.1 _ _
theorem XT {P}(elem)(s):z6 P Any (Conv.stringToBytes elem s):=zE.2.2.2.2.2.2.2.2.2.2.2.2.2.2.1 _ _
theorem XS {P}(elem)(s):z6 P Any (Conv.stringToRunes elem s):=zE.2.2.2.2.2.2.2.2.2.2.2.2.2.2.2.1 _ _
theorem kS {P}(a):z6 P Any (Conv.seenAt a):=zE.2.2.2.2.2.2.2.2.2.2.2.2.2.2.2.2.1 _
theorem qO {P}(size)(sLen)(n)(base)(x):z6 P Any (eE size sLen n base x):=zE.2.2.2.2.2.2.2.2.2.2.2.2.2.2.2.2.2.1 _ _ _ _ _
theorem VQ {P}(argTypes)(_type)(args):z6 P Any (eF argTypes _type args):=zE.2.2.2.2.2.2.2.2.2.2.2.2.2.2.2.2.2.2.1 _ _ _
theorem yp {P}(argTypes)(_type)(args):z6 P Any (eG argTypes _type args):=zE.2.2.2.2.2.2.2.2.2.2.2.2.2.2.2.2.2.2.2.1 _ _ _
theorem VP {P}(y1)(y2):z6 P Any (eH y1 y2):=zE.2.2.2.2.2.2.2.2.2.2.2.2.2.2.2.2.2.2.2.2.1 _ _
theorem VM {P}(y1)(y2):z6 P Any (eI y1 y2):=zE.2.2.2.2.2.2.2.2.2.2.2.2.2.2.2.2.2.2.2.2.2.1 _ _
theorem qN {P}(t)(v):z6 P Any (eJ t v):=zE.2.2.2.2.2.2.2.2.2.2.2.2.2.2.2.2.2.2.2.2.2.2.1 _ _
theorem Xz {P}(xType)(x):z6 P Any (Instr.makeInterface xType x):=zE.2.2.2.2.2.2.2.2.2.2.2.2.2.2.2.2.2.2.2.2.2.2.2.1 _ _
theorem kN {P}(xType)(x):z6 P Any (Instr.range xType x):=zE.2.2.2.2.2.2.2.2.2.2.2.2.2.2.2.2.2.2.2.2.2.2.2.2.1 _ _
theorem x5 {P}(fn)(tmps)(params)(assign)(body)(around):z6 P Any (Instr.enterLoop fn tmps params assign body around):=zE.2.2.2.2.2.2.2.2.2.2.2.2.2.2.2.2.2.2.2.2.2.2.2.2.2.1 _ _ _ _ _ _
theorem xw {P}(l)(jump):z6 P Any (Instr.endRound l jump):=zE.2.2.2.2.2.2.2.2.2.2.2.2.2.2.2.2.2.2.2.2.2.2.2.2.2.2.2.1 _ _
theorem Ye {P}(l)(d):z6 P Any (Instr.deferInRound l d):=zE.2.2.2.2.2.2.2.2.2.2.2.2.2.2.2.2.2.2.2.2.2.2.2.2.2.2.2.2.1 _ _
theorem zT {P}(op)(k)(x)(y):z6 P Any (Op.Complex.arith op k x y):=zE.2.2.2.2.2.2.2.2.2.2.2.2.2.2.2.2.2.2.2.2.2.2.2.2.2.2.2.2.2.1 _ _ _ _
theorem Q5 {P}(src)(x)(dst):z6 P Any (Op.Complex.conv src x dst):=zE.2.2.2.2.2.2.2.2.2.2.2.2.2.2.2.2.2.2.2.2.2.2.2.2.2.2.2.2.2.2.2.1 _ _ _
theorem xX {P}(src)(re)(im)(dst):z6 P Any (Conv.complexToComplex src re im dst):=zE.2.2.2.2.2.2.2.2.2.2.2.2.2.2.2.2.2.2.2.2.2.2.2.2.2.2.2.2.2.2.2.2 _ _ _ _
theorem Zf {P:eA}:(∀n,z6 P Any (backFromNumber n))∧
  (∀a b,z6 P Any (sameAddr a b))∧
  (∀t a,z6 P Any (loadVar t a))∧
  (∀t a v,z6 P Any (storeVar t a v))∧
  (∀t cs off,z6 P Any (part t cs off))∧
  (∀{α:Type} (e:RuntimeError),z6 P Any (Go.runtimePanic e:Sem α))∧
  (∀a,z6 P Any (byteOf a))∧
  (∀x,z6 P Any (Conv.bytesToString x))∧
  (∀x,z6 P Any (Conv.runesToString x))∧
  (∀a6 a5 x,z6 P Any (Conv.unsafePointer a6 a5 x))∧
  (∀size n y1,z6 P Any (eK size n y1))∧
  (∀argTypes _type args,z6 P Any (eL argTypes _type args))∧
  (∀_argTypes _type args,z6 P Any (eM _argTypes _type args))∧
  (∀_argTypes _type args,z6 P Any (eN _argTypes _type args))∧
  (∀ln a2 argTypes args,z6 P Any (eO ln a2 argTypes args))∧
  (∀a4 v,z6 P Any (Instr.box a4 v))∧
  (∀t a0,z6 P Any (Instr.build t a0))∧
  (∀t len a0,z6 P Any (Instr.buildSlice t len a0))∧
  (∀t a1,z6 P Any (Instr.makeMap t a1))∧
  (∀_mapType map a3 value,z6 P Any (Instr.entryStore _mapType map a3 value)):=by
 refine⟨?_,?_,?_,?_,?_,?_,?_,?_,?_,?_,?_,?_,?_,?_,?_,?_,?_,?_,?_,?_⟩<;>intros<;>(first|unfold Go.backFromNumber|unfold Go.sameAddr|unfold Go.loadVar|unfold Go.storeVar|unfold Go.part|unfold Go.runtimePanic|unfold Go.byteOf|unfold Go.Conv.bytesToString|unfold Go.Conv.runesToString|unfold Go.Conv.unsafePointer|unfold Go.Builtin.firstCells|unfold Go.Builtin.clear_|unfold Go.Builtin.max_|unfold Go.Builtin.min_|unfold Go.Builtin.pieces|unfold Go.Instr.box|unfold Go.Instr.build|unfold Go.Instr.buildSlice|unfold Go.Instr.makeMap|unfold Go.Instr.entryStore)
 all_goals
  repeat' (first|exact trivial|exact fun _=>trivial|with_reducible (first|assumption|exact zj|exact(yn _)|exact(vd _ _)|exact(Kl _)|exact(G7 _)|exact(jL _ _)|exact(Zo _)|exact(xh _ _ _)|exact(yB _)|exact(Xr _ _)|exact(kS _)|exact(ve _ _)|exact(Uz _)|exact(zk _)|exact(YB _ _ _)|exact(yy _)|exact(VP _ _)|exact(VM _ _)|exact(qN _ _)|exact(YZ _ _)|exact(Y5 _)|apply z6.bind0|apply z6.map0|apply z6.forInArray|apply z6.forInRange|apply z6.forInList|apply z6.mapMArray|apply z6.mapMList|apply z6.foldlMList|apply z6.forInRange' |apply z6.ite|intro _)|split|dsimp only)
theorem v6 {P}(a)(b):z6 P Any (sameAddr a b):=Zf.2.1 _ _
theorem qq {P}(t)(a):z6 P Any (loadVar t a):=Zf.2.2.1 _ _
theorem Js {P}(t)(a)(v):z6 P Any (storeVar t a v):=Zf.2.2.2.1 _ _ _
theorem YC {P}(t)(cs)(off):z6 P Any (part t cs off):=Zf.2.2.2.2.1 _ _ _
theorem zz {P:eA}{α:Type}(e:RuntimeError):z6 P Any (Go.runtimePanic e:Sem α):=Zf.2.2.2.2.2.1 _
theorem Ko {P}(a):z6 P Any (byteOf a):=Zf.2.2.2.2.2.2.1 _
theorem XV {P}(x):z6 P Any (Conv.bytesToString x):=Zf.2.2.2.2.2.2.2.1 _
theorem XU {P}(x):z6 P Any (Conv.runesToString x):=Zf.2.2.2.2.2.2.2.2.1 _
theorem XR {P}(src)(dst)(x):z6 P Any (Conv.unsafePointer src dst x):=Zf.2.2.2.2.2.2.2.2.2.1 _ _ _
theorem XX {P}(size)(n)(y1):z6 P Any (eK size n y1):=Zf.2.2.2.2.2.2.2.2.2.2.1 _ _ _
theorem QV {P}(argTypes)(_type)(args):z6 P Any (eL argTypes _type args):=Zf.2.2.2.2.2.2.2.2.2.2.2.1 _ _ _
theorem VN {P}(_argTypes)(_type)(args):z6 P Any (eM _argTypes _type args):=Zf.2.2.2.2.2.2.2.2.2.2.2.2.1 _ _ _
theorem VK {P}(_argTypes)(_type)(args):z6 P Any (eN _argTypes _type args):=Zf.2.2.2.2.2.2.2.2.2.2.2.2.2.1 _ _ _
theorem QT {P}(ln)(consts)(argTypes)(args):z6 P Any (eO ln consts argTypes args):=Zf.2.2.2.2.2.2.2.2.2.2.2.2.2.2.1 _ _ _ _
theorem jQ {P}(elem)(v):z6 P Any (Instr.box elem v):=Zf.2.2.2.2.2.2.2.2.2.2.2.2.2.2.2.1 _ _
theorem kQ {P}(t)(parts):z6 P Any (Instr.build t parts):=Zf.2.2.2.2.2.2.2.2.2.2.2.2.2.2.2.2.1 _ _
theorem qM {P}(t)(len)(parts):z6 P Any (Instr.buildSlice t len parts):=Zf.2.2.2.2.2.2.2.2.2.2.2.2.2.2.2.2.2.1 _ _ _
theorem vE {P}(t)(reserve):z6 P Any (Instr.makeMap t reserve):=Zf.2.2.2.2.2.2.2.2.2.2.2.2.2.2.2.2.2.2.1 _ _
theorem qL {P}(_mapType)(map)(stamp)(value):z6 P Any (Instr.entryStore _mapType map stamp value):=Zf.2.2.2.2.2.2.2.2.2.2.2.2.2.2.2.2.2.2.2 _ _ _ _
theorem ZS {P:eA}(_argTypes:Array TypeId)(_type:TypeId)(args:Array eB):z6 P Any (Go.Builtin.unsafeAdd_ _argTypes _type args):=by
 unfold Go.Builtin.unsafeAdd_;obtain⟨l⟩:=args;rcases l with _|⟨a,_|⟨b,_|⟨c,_|⟨d,l⟩⟩⟩⟩
 all_goals first
  |exact trivial
  |(cases a<;>first|exact trivial|skip)
 all_goals(try rename_i o;cases o)
 all_goals try(first|exact trivial|refine z6.bind0 ?_ (fun _=> ?_)|refine z6.ite (fun _=> ?_) (fun _=> ?_))
 all_goals
  repeat' (first|exact trivial|exact fun _=>trivial|with_reducible (first|assumption|exact zj|exact(yp _ _ _)|exact(Y5 _)|exact(Xq _)|apply z6.bind0|apply z6.map0|apply z6.forInArray|apply z6.forInRange|apply z6.forInList|apply z6.mapMArray|apply z6.mapMList|apply z6.foldlMList|apply z6.forInRange' |apply z6.ite|intro _)|split|dsimp only)
theorem x6 {P:eA}(_argTypes:Array TypeId)(a0:TypeId)(args:Array eB):z6 P Any (Go.Builtin.unsafeSliceData_ _argTypes a0 args):=by
 unfold Go.Builtin.unsafeSliceData_;obtain⟨l⟩:=args;rcases l with _|⟨a,_|⟨b,l⟩⟩
 ·exact trivial
 ·cases a with
  |slice base n c=>
   cases base with
   |none=>exact trivial
   |some a=>
    refine z6.ite (fun _=>trivial) (fun _=> ?_);refine z6.bind0 (Xq _) (fun _=>z6.ite (fun _=>trivial) (fun _=> ?_));exact z6.bind0 (yB _) fun _=>z6.bind0 (yz _) fun _=>trivial
  |_=>exact trivial
 ·exact trivial
theorem YE {P:eA}(_argTypes:Array TypeId)(a0:TypeId)(args:Array eB):z6 P Any (Go.Builtin.unsafeStringData_ _argTypes a0 args):=by
 unfold Go.Builtin.unsafeStringData_;obtain⟨l⟩:=args;rcases l with _|⟨a,_|⟨b,_|⟨c,_|⟨d,l⟩⟩⟩⟩
 all_goals first
  |exact trivial
  |(cases a<;>first|exact trivial|skip)
 all_goals(try rename_i o;cases o)
 all_goals try(first|exact trivial|refine z6.bind0 ?_ (fun _=> ?_)|refine z6.ite (fun _=> ?_) (fun _=> ?_))
 all_goals
  repeat' (first|exact trivial|exact fun _=>trivial|with_reducible (first|assumption|exact zj|exact(yB _)|exact(Y4 _)|exact(YZ _ _)|apply z6.bind0|apply z6.map0|apply z6.forInArray|apply z6.forInRange|apply z6.forInList|apply z6.mapMArray|apply z6.mapMList|apply z6.foldlMList|apply z6.forInRange' |apply z6.ite|intro _)|split|dsimp only)
theorem xu {P:eA}(x y:Nat):z6 P Any (Go.Op.Complex.add x y):=zT _ _ _ _
theorem xo {P:eA}(x y:Nat):z6 P Any (Go.Op.Complex.sub x y):=zT _ _ _ _
theorem xq {P:eA}(x y:Nat):z6 P Any (Go.Op.Complex.mul x y):=zT _ _ _ _
theorem xp {P:eA}(x y:Nat):z6 P Any (Go.Op.Complex.quo x y):=zT _ _ _ _
theorem zU {P:eA}:(∀y1 y2,z6 P Any (samePointer y1 y2))∧
  (∀{α:Type} (k:IntKind) (x y:Int) (a8:BoundsCode),z6 P Any (Go.boundsPanic k x y a8:Sem α))∧
  (∀y1,z6 P Any (asAddr y1))∧
  (∀base a5 a4,z6 P Any (partAt base a5 a4))∧
  (∀a b,z6 P Any (Op.twoPlaces a b))∧
  (∀k a n,z6 P Any (Op.addrMod k a n))∧
  (∀op k x y,z6 P Any (Op.intDiv op k x y))∧
  (∀op k x _yk y,z6 P Any (Op.shift op k x _yk y))∧
  (∀argTypes _type args,z6 P Any (eP argTypes _type args))∧
  (∀argTypes _type args,z6 P Any (eQ argTypes _type args))∧
  (∀t a3,z6 P Any (Instr.loadAt t a3))∧
  (∀t a3 val,z6 P Any (Instr.storeAt t a3 val))∧
  (∀b1 x,z6 P Any (Instr.arrayAt b1 x))∧
  (∀a9 heap b2,z6 P Any (Instr.alloc a9 heap b2))∧
  (∀a1 x a6,z6 P Any (Instr.field a1 x a6))∧
  (∀t size,z6 P Any (Instr.makeChan t size))∧
  (∀t len cap,z6 P Any (Instr.makeSlice t len cap))∧
  (∀t y1,z6 P Any (Place.get t y1))∧
  (∀x,z6 P Any (Instr.panic x))∧
  (∀l,z6 P Any (Instr.beginRound l))∧
  (∀l,z6 P Any (Instr.endLoop l))∧
  (∀x a1 a0 a2,z6 P Any (Instr.typeAssert x a1 a0 a2))∧
  (∀a b c d,z6 P Any (Op.Complex.product a b c d))∧
  (∀a7 a b c d,z6 P Any (Op.Complex.corrected a7 a b c d)):=by
 refine⟨?_,?_,?_,?_,?_,?_,?_,?_,?_,?_,?_,?_,?_,?_,?_,?_,?_,?_,?_,?_,?_,?_,?_,?_⟩<;>intros<;>(first|unfold Go.samePointer|unfold Go.boundsPanic|unfold Go.asAddr|unfold Go.partAt|unfold Go.Op.twoPlaces|unfold Go.Op.addrMod|unfold Go.Op.intDiv|unfold Go.Op.shift|unfold Go.Builtin.append_|unfold Go.Builtin.copy_|unfold Go.Instr.loadAt|unfold Go.Instr.storeAt|unfold Go.Instr.arrayAt|unfold Go.Instr.alloc|unfold Go.Instr.field|unfold Go.Instr.makeChan|unfold Go.Instr.makeSlice|unfold Go.Place.get|unfold Go.Instr.panic|unfold Go.Instr.beginRound|unfold Go.Instr.endLoop|unfold Go.Instr.typeAssert|unfold Go.Op.Complex.product|unfold Go.Op.Complex.corrected)
 all_goals
  repeat' (first|exact trivial|exact fun _=>trivial|with_reducible (first|assumption|exact zj|exact(v6 _ _)|exact(zz _)|exact(Ko _)|exact(Za _)|exact(XX _ _ _)|exact(vL _)|exact(qO _ _ _ _ _)|exact(Y5 _)|exact(VE _)|exact(YZ _ _)|exact(Zo _)|exact(xh _ _ _)|exact(zk _)|exact(yy _)|exact(yO _)|exact(qq _ _)|exact(Js _ _ _)|exact(Xr _ _)|exact(jN _)|exact(YC _ _ _)|exact(QO)|exact(Y6 _)|exact(zT _ _ _ _)|exact(xu _ _)|exact(xo _ _)|exact(xq _ _)|exact(xp _ _)|apply z6.bind0|apply z6.map0|apply z6.forInArray|apply z6.forInRange|apply z6.forInList|apply z6.mapMArray|apply z6.mapMList|apply z6.foldlMList|apply z6.forInRange' |apply z6.ite|intro _)|split|dsimp only)
theorem kG {P}(y1)(y2):z6 P Any (samePointer y1 y2):=zU.1 _ _
theorem XK {P:eA}{α:Type}(k:IntKind)(x y:Int)(a0:BoundsCode):z6 P Any (Go.boundsPanic k x y a0:Sem α):=zU.2.1 _ _ _ _
theorem Y_ {P}(y1):z6 P Any (asAddr y1):=zU.2.2.1 _
theorem O8 {P}(base)(cells)(bytes):z6 P Any (partAt base cells bytes):=zU.2.2.2.1 _ _ _
theorem VF {P}(a)(b):z6 P Any (Op.twoPlaces a b):=zU.2.2.2.2.1 _ _
theorem KM {P}(k)(a)(n):z6 P Any (Op.addrMod k a n):=zU.2.2.2.2.2.1 _ _ _
theorem jO {P}(op)(k)(x)(y):z6 P Any (Op.intDiv op k x y):=zU.2.2.2.2.2.2.1 _ _ _ _
theorem Jv {P}(op)(k)(x)(_yk)(y):z6 P Any (Op.shift op k x _yk y):=zU.2.2.2.2.2.2.2.1 _ _ _ _ _
theorem Q9 {P}(argTypes)(_type)(args):z6 P Any (eP argTypes _type args):=zU.2.2.2.2.2.2.2.2.1 _ _ _
theorem vN {P}(argTypes)(_type)(args):z6 P Any (eQ argTypes _type args):=zU.2.2.2.2.2.2.2.2.2.1 _ _ _
theorem VJ {P}(t)(addr):z6 P Any (Instr.loadAt t addr):=zU.2.2.2.2.2.2.2.2.2.2.1 _ _
theorem vC {P}(t)(addr)(val):z6 P Any (Instr.storeAt t addr val):=zU.2.2.2.2.2.2.2.2.2.2.2.1 _ _ _
theorem vJ {P}(arr)(x):z6 P Any (Instr.arrayAt arr x):=zU.2.2.2.2.2.2.2.2.2.2.2.2.1 _ _
theorem kR {P}(elem)(heap)(old):z6 P Any (Instr.alloc elem heap old):=zU.2.2.2.2.2.2.2.2.2.2.2.2.2.1 _ _ _
theorem XQ {P}(xType)(x)(field):z6 P Any (Instr.field xType x field):=zU.2.2.2.2.2.2.2.2.2.2.2.2.2.2.1 _ _ _
theorem QR {P}(t)(size):z6 P Any (Instr.makeChan t size):=zU.2.2.2.2.2.2.2.2.2.2.2.2.2.2.2.1 _ _
theorem Q6 {P}(t)(len)(cap):z6 P Any (Instr.makeSlice t len cap):=zU.2.2.2.2.2.2.2.2.2.2.2.2.2.2.2.2.1 _ _ _
theorem xU {P}(t)(y1):z6 P Any (Place.get t y1):=zU.2.2.2.2.2.2.2.2.2.2.2.2.2.2.2.2.2.1 _ _
theorem XO {P}(x):z6 P Any (Instr.panic x):=zU.2.2.2.2.2.2.2.2.2.2.2.2.2.2.2.2.2.2.1 _
theorem Yy {P}(l):z6 P Any (Instr.beginRound l):=zU.2.2.2.2.2.2.2.2.2.2.2.2.2.2.2.2.2.2.2.1 _
theorem xW {P}(l):z6 P Any (Instr.endLoop l):=zU.2.2.2.2.2.2.2.2.2.2.2.2.2.2.2.2.2.2.2.2.1 _
theorem qI {P}(x)(xType)(asserted)(commaOk):z6 P Any (Instr.typeAssert x xType asserted commaOk):=zU.2.2.2.2.2.2.2.2.2.2.2.2.2.2.2.2.2.2.2.2.2.1 _ _ _ _
theorem XN {P}(a)(b)(c)(d):z6 P Any (Op.Complex.product a b c d):=zU.2.2.2.2.2.2.2.2.2.2.2.2.2.2.2.2.2.2.2.2.2.2.1 _ _ _ _
theorem Xg {P}(scale)(a)(b)(c)(d):z6 P Any (Op.Complex.corrected scale a b c d):=zU.2.2.2.2.2.2.2.2.2.2.2.2.2.2.2.2.2.2.2.2.2.2.2 _ _ _ _ _
theorem VG {P:eA}(y1:Nat)(y2:TypeId)(y3:eB)(y4:eB):z6 P Any (Go.Op.eqGuardIn y1 y2 y3 y4):=by
 induction y1 generalizing y2 y3 y4 with
 |zero=> ?_
 |succ n ih=> ?_
 all_goals
  unfold Go.Op.eqGuardIn;repeat' (first|exact trivial|exact fun _=>trivial|with_reducible (first|assumption|exact zj|exact(YC _ _ _)|exact(Zo _)|exact(zk _)|exact ih _ _ _|apply z6.bind0|apply z6.map0|apply z6.forInArray|apply z6.forInRange|apply z6.forInList|apply z6.mapMArray|apply z6.mapMList|apply z6.foldlMList|apply z6.forInRange' |apply z6.ite|intro _)|split|dsimp only)
theorem QU {P:eA}(_argTypes:Array TypeId)(_type:TypeId)(args:Array eB):z6 P Any (Go.Builtin.close_ _argTypes _type args):=by
 unfold Go.Builtin.close_;obtain⟨l⟩:=args;rcases l with _|⟨a,_|⟨b,_|⟨c,_|⟨d,l⟩⟩⟩⟩
 all_goals first
  |exact trivial
  |(cases a<;>first|exact trivial|skip)
 all_goals(try rename_i o;cases o)
 all_goals try(first|exact trivial|refine z6.bind0 ?_ (fun _=> ?_)|refine z6.ite (fun _=> ?_) (fun _=> ?_))
 all_goals
  repeat' (first|exact trivial|exact fun _=>trivial|with_reducible (first|assumption|exact zj|exact(zz _)|apply z6.bind0|apply z6.map0|apply z6.forInArray|apply z6.forInRange|apply z6.forInList|apply z6.mapMArray|apply z6.mapMList|apply z6.foldlMList|apply z6.forInRange' |apply z6.ite|intro _)|split|dsimp only)
theorem Xh {P:eA}(argTypes:Array TypeId)(_type:TypeId)(args:Array eB):z6 P Any (Go.Builtin.unsafeSlice_ argTypes _type args):=by
 unfold Go.Builtin.unsafeSlice_;obtain⟨l⟩:=args;rcases l with _|⟨a,_|⟨b,_|⟨c,_|⟨d,l⟩⟩⟩⟩
 all_goals first
  |exact trivial
  |(cases a<;>first|exact trivial|skip)
 all_goals(try rename_i o;cases o)
 all_goals try(first|exact trivial|refine z6.bind0 ?_ (fun _=> ?_)|refine z6.ite (fun _=> ?_) (fun _=> ?_))
 all_goals
  repeat' (first|exact trivial|exact fun _=>trivial|with_reducible (first|assumption|exact zj|exact(yp _ _ _)|exact(Y5 _)|exact(yB _)|exact(zz _)|exact(Zo _)|exact(Za _)|exact(YB _ _ _)|exact(Xq _)|apply z6.bind0|apply z6.map0|apply z6.forInArray|apply z6.forInRange|apply z6.forInList|apply z6.mapMArray|apply z6.mapMList|apply z6.foldlMList|apply z6.forInRange' |apply z6.ite|intro _)|split|dsimp only)
theorem xY {P:eA}(argTypes:Array TypeId)(_type:TypeId)(args:Array eB):z6 P Any (Go.Builtin.unsafeString_ argTypes _type args):=by
 unfold Go.Builtin.unsafeString_;obtain⟨l⟩:=args;rcases l with _|⟨a,_|⟨b,_|⟨c,_|⟨d,l⟩⟩⟩⟩
 all_goals first
  |exact trivial
  |(cases a<;>first|exact trivial|skip)
 all_goals(try rename_i o;cases o)
 all_goals try(first|exact trivial|refine z6.bind0 ?_ (fun _=> ?_)|refine z6.ite (fun _=> ?_) (fun _=> ?_))
 all_goals
  repeat' (first|exact trivial|exact fun _=>trivial|with_reducible (first|assumption|exact zj|exact(yp _ _ _)|exact(Y5 _)|exact(yB _)|exact(jM _ _ _)|exact(zz _)|exact(YB _ _ _)|apply z6.bind0|apply z6.map0|apply z6.forInArray|apply z6.forInRange|apply z6.forInList|apply z6.mapMArray|apply z6.mapMList|apply z6.foldlMList|apply z6.forInRange' |apply z6.ite|intro _)|split|dsimp only)
theorem QS {P:eA}(a0:Bool)(y1:Nat)(y2:TypeId)(y3:eB):z6 P Any (Go.Instr.checkKey a0 y1 y2 y3):=by
 induction y1 generalizing y2 y3 with
 |zero=> ?_
 |succ n ih=> ?_
 all_goals
  unfold Go.Instr.checkKey;repeat' (first|exact trivial|exact fun _=>trivial|with_reducible (first|assumption|exact zj|exact(YC _ _ _)|exact(zz _)|exact(Zo _)|exact(Za _)|exact(qp _)|exact(zk _)|exact ih _ _|apply z6.bind0|apply z6.map0|apply z6.forInArray|apply z6.forInRange|apply z6.forInList|apply z6.mapMArray|apply z6.mapMList|apply z6.foldlMList|apply z6.forInRange' |apply z6.ite|intro _)|split|dsimp only)
theorem kJ {P:eA}(y1:List FieldStep)(y2:TypeId)(y3:Option eB):z6 P Any (Go.followBlind y1 y2 y3):=by
 induction y1 generalizing y2 y3 with
 |nil=> ?_
 |cons x l ih=> ?_
 all_goals
  unfold Go.followBlind;repeat' (first|exact trivial|exact fun _=>trivial|with_reducible (first|assumption|exact zj|exact(YC _ _ _)|exact(zk _)|exact ih _ _|apply z6.bind0|apply z6.map0|apply z6.forInArray|apply z6.forInRange|apply z6.forInList|apply z6.mapMArray|apply z6.mapMList|apply z6.foldlMList|apply z6.forInRange' |apply z6.ite|intro _)|split|dsimp only)
theorem xD {P:eA}(argTypes:Array TypeId)(_type:TypeId)(args:Array eB):z6 P Any (Go.Builtin.ssaWrapNilChk_ argTypes _type args):=by
 unfold Go.Builtin.ssaWrapNilChk_;obtain⟨l⟩:=args;rcases l with _|⟨a,_|⟨b,_|⟨c,_|⟨d,l⟩⟩⟩⟩
 ·exact trivial
 ·exact trivial
 ·exact trivial
 ·cases b with
  |string s=>
   cases c with
   |string m=>
    cases a with
    |pointer o=>
     cases o with
     |some a=>exact trivial
     |none=>
      refine z6.bind0 (Zi _) (fun _=> ?_);repeat' (first|exact trivial|exact fun _=>trivial|with_reducible (first|assumption|exact zj|exact(Km _ _ _ _)|exact(zz _)|exact(Za _)|exact(zk _)|apply z6.bind0|apply z6.map0|apply z6.forInArray|apply z6.forInRange|apply z6.forInList|apply z6.mapMArray|apply z6.mapMList|apply z6.foldlMList|apply z6.forInRange' |apply z6.ite|intro _)|split|dsimp only)
    |_=>exact trivial
   |_=>exact trivial
  |_=>exact trivial
 ·exact trivial
theorem xT {P:eA}:(∀a f,z6 P Any (fieldPlace a f))∧
  (∀k a b,z6 P Any (Op.addrSub k a b))∧
  (∀op a b,z6 P Any (Op.addrCmp op a b))∧
  (∀a3 x a2,z6 P Any (Instr.index a3 x a2))∧
  (∀x y a4,z6 P Any (Instr.sliceBound x y a4))∧
  (∀a b c d,z6 P Any (Op.Complex.quotient a b c d))∧
  (∀xt x a0 a1,z6 P Any (receiverAt xt x a0 a1)):=by
 refine⟨?_,?_,?_,?_,?_,?_,?_⟩<;>intros<;>(first|unfold Go.fieldPlace|unfold Go.Op.addrSub|unfold Go.Op.addrCmp|unfold Go.Instr.index|unfold Go.Instr.sliceBound|unfold Go.Op.Complex.quotient|unfold Go.receiverAt)
 all_goals
  repeat' (first|exact trivial|exact fun _=>trivial|with_reducible (first|assumption|exact zj|exact(O8 _ _ _)|exact(Zo _)|exact(VF _ _)|exact(qr _)|exact(XK _ _ _ _)|exact(YC _ _ _)|exact(zk _)|exact(zT _ _ _ _)|exact(mild_Op_Complex_cmp _ _ _ _)|exact(Xg _ _ _ _ _)|exact(xu _ _)|exact(xo _ _)|exact(xq _ _)|exact(xp _ _)|exact(xD _ _ _)|exact(xU _ _)|exact(Y_ _)|exact(qq _ _)|apply z6.bind0|apply z6.map0|apply z6.forInArray|apply z6.forInRange|apply z6.forInList|apply z6.mapMArray|apply z6.mapMList|apply z6.foldlMList|apply z6.forInRange' |apply z6.ite|intro _)|split|dsimp only)
theorem qC {P}(a)(f):z6 P Any (fieldPlace a f):=xT.1 _ _
theorem KL {P}(k)(a)(b):z6 P Any (Op.addrSub k a b):=xT.2.1 _ _ _
theorem KN {P}(op)(a)(b):z6 P Any (Op.addrCmp op a b):=xT.2.2.1 _ _ _
theorem YD {P}(xType)(x)(index):z6 P Any (Instr.index xType x index):=xT.2.2.2.1 _ _ _
theorem qJ {P}(x)(y)(code):z6 P Any (Instr.sliceBound x y code):=xT.2.2.2.2.1 _ _ _
theorem Xy {P}(a)(b)(c)(d):z6 P Any (Op.Complex.quotient a b c d):=xT.2.2.2.2.2.1 _ _ _ _
theorem qB {P}(xt)(x)(pointerReceiver)(wrapper):z6 P Any (receiverAt xt x pointerReceiver wrapper):=xT.2.2.2.2.2.2 _ _ _ _
theorem KK {P:eA}(y1:Nat)(y2:TypeId)(y3:eB)(y4:eB):z6 P Any (Go.Op.equalIn y1 y2 y3 y4):=by
 induction y1 generalizing y2 y3 y4 with
 |zero=> ?_
 |succ n ih=> ?_
 all_goals
  unfold Go.Op.equalIn;repeat' (first|exact trivial|exact fun _=>trivial|with_reducible (first|assumption|exact zj|exact(yn _)|exact(Ko _)|exact(YC _ _ _)|exact(zz _)|exact(v6 _ _)|exact(kG _ _)|exact(Zo _)|exact(Za _)|exact(qp _)|exact(zk _)|exact ih _ _ _|apply z6.bind0|apply z6.map0|apply z6.forInArray|apply z6.forInRange|apply z6.forInList|apply z6.mapMArray|apply z6.mapMList|apply z6.foldlMList|apply z6.forInRange' |apply z6.ite|intro _)|split|dsimp only)
theorem Jt {P:eA}(y1:Nat)(y2:TypeId)(y3:eB)(y4:String):z6 P Any (Go.nilAhead y1 y2 y3 y4):=by
 induction y1 generalizing y2 y3 y4 with
 |zero=> ?_
 |succ n ih=> ?_
 all_goals
  unfold Go.nilAhead;repeat' (first|exact trivial|exact fun _=>trivial|with_reducible (first|assumption|exact zj|exact(kJ _ _ _)|exact(Za _)|exact(zk _)|exact ih _ _ _|apply z6.bind0|apply z6.map0|apply z6.forInArray|apply z6.forInRange|apply z6.forInList|apply z6.mapMArray|apply z6.mapMList|apply z6.foldlMList|apply z6.forInRange' |apply z6.ite|intro _)|split|dsimp only)
theorem XJ {P:eA}:(∀t x y,z6 P Any (Op.equal t x y))∧
  (∀a1 len cap low a5 a6,z6 P Any (Instr.sliceBounds a1 len cap low a5 a6))∧
  (∀op k xr xi yr yi,z6 P Any (Op.complexOp op k xr xi yr yi))∧
  (∀s a4 a2,z6 P Any (Instr.fieldAt s a4 a2))∧
  (∀t x a0,z6 P Any (Instr.indexAt t x a0))∧
  (∀a3 a0,z6 P Any (Instr.extract a3 a0)):=by
 refine⟨?_,?_,?_,?_,?_,?_⟩<;>intros<;>(first|unfold Go.Op.equal|unfold Go.Instr.sliceBounds|unfold Go.Op.complexOp|unfold Go.Instr.fieldAt|unfold Go.Instr.indexAt|unfold Go.Instr.extract)
 all_goals
  repeat' (first|exact trivial|exact fun _=>trivial|with_reducible (first|assumption|exact zj|exact(KK _ _ _ _)|exact(qJ _ _ _)|exact(zT _ _ _ _)|exact(mild_Op_Complex_cmp _ _ _ _)|exact(Q5 _ _ _)|exact(XN _ _ _ _)|exact(Xy _ _ _ _)|exact(XQ _ _ _)|exact(yO _)|exact(qC _ _)|exact(zk _)|exact(YD _ _ _)|exact(qr _)|exact(XK _ _ _ _)|exact(Zo _)|apply z6.bind0|apply z6.map0|apply z6.forInArray|apply z6.forInRange|apply z6.forInList|apply z6.mapMArray|apply z6.mapMList|apply z6.foldlMList|apply z6.forInRange' |apply z6.ite|intro _)|split|dsimp only)
theorem vf {P}(t)(x)(y):z6 P Any (Op.equal t x y):=XJ.1 _ _ _
theorem Yk {P}(isSlice)(len)(cap)(low)(high)(max):z6 P Any (Instr.sliceBounds isSlice len cap low high max):=XJ.2.1 _ _ _ _ _ _
theorem VH {P}(op)(k)(xr)(xi)(yr)(yi):z6 P Any (Op.complexOp op k xr xi yr yi):=XJ.2.2.1 _ _ _ _ _ _
theorem vH {P}(s)(addr)(field):z6 P Any (Instr.fieldAt s addr field):=XJ.2.2.2.1 _ _ _
theorem vF {P}(t)(x)(index):z6 P Any (Instr.indexAt t x index):=XJ.2.2.2.2.1 _ _ _
theorem vI {P}(tuple)(index):z6 P Any (Instr.extract tuple index):=XJ.2.2.2.2.2 _ _
theorem Kn {P:eA}(y1:List FieldStep)(y2:TypeId)(y3:Place):z6 P Any (Go.follow y1 y2 y3):=by
 induction y1 generalizing y2 y3 with
 |nil=> ?_
 |cons x l ih=> ?_
 all_goals
  unfold Go.follow;repeat' (first|exact trivial|exact fun _=>trivial|with_reducible (first|assumption|exact zj|exact(xU _ _)|exact(Y_ _)|exact(qC _ _)|exact(YC _ _ _)|exact(zk _)|exact ih _ _|apply z6.bind0|apply z6.map0|apply z6.forInArray|apply z6.forInRange|apply z6.forInList|apply z6.mapMArray|apply z6.mapMList|apply z6.foldlMList|apply z6.forInRange' |apply z6.ite|intro _)|split|dsimp only)
theorem Oa {P:eA}:(∀a1 x low a2 a3,z6 P Any (Instr.slice a1 x low a2 a3))∧
  (∀t v path a0,z6 P Any (receiverVia t v path a0)):=by
 refine⟨?_,?_⟩<;>intros<;>(first|unfold Go.Instr.slice|unfold Go.receiverVia)
 all_goals
  repeat' (first|exact trivial|exact fun _=>trivial|with_reducible (first|assumption|exact zj|exact(Yk _ _ _ _ _ _)|exact(Y_ _)|exact(Zo _)|exact(zk _)|exact(Kn _ _ _)|exact(qB _ _ _ _)|apply z6.bind0|apply z6.map0|apply z6.forInArray|apply z6.forInRange|apply z6.forInList|apply z6.mapMArray|apply z6.mapMList|apply z6.foldlMList|apply z6.forInRange' |apply z6.ite|intro _)|split|dsimp only)
theorem kL {P}(xType)(x)(low)(high)(max):z6 P Any (Instr.slice xType x low high max):=Oa.1 _ _ _ _ _
theorem kH {P}(t)(v)(path)(pointerReceiver):z6 P Any (receiverVia t v path pointerReceiver):=Oa.2 _ _ _ _
theorem qK {P:eA}(a0:TypeId)(k:eB)(y1:List MapEntry)(y2:Nat):z6 P Any (Go.Instr.findAsking a0 k y1 y2):=by
 induction y1 generalizing y2 with
 |nil=> ?_
 |cons x l ih=> ?_
 all_goals
  unfold Go.Instr.findAsking;repeat' (first|exact trivial|exact fun _=>trivial|with_reducible (first|assumption|exact zj|exact(vf _ _ _)|exact ih _|apply z6.bind0|apply z6.map0|apply z6.forInArray|apply z6.forInRange|apply z6.forInList|apply z6.mapMArray|apply z6.mapMList|apply z6.foldlMList|apply z6.forInRange' |apply z6.ite|intro _)|split|dsimp only)
theorem Km {P:eA}(y1:Nat)(y2:TypeId)(y3:eB)(y4:String):z6 P Any (Go.method y1 y2 y3 y4):=by
 induction y1 generalizing y2 y3 y4 with
 |zero=> ?_
 |succ n ih=> ?_
 all_goals
  unfold Go.method;repeat' (first|exact trivial|exact fun _=>trivial|with_reducible (first|assumption|exact zj|exact(xU _ _)|exact(Kn _ _ _)|exact(qB _ _ _ _)|exact(zz _)|exact(Za _)|exact ih _ _ _|apply z6.bind0|apply z6.map0|apply z6.forInArray|apply z6.forInRange|apply z6.forInList|apply z6.mapMArray|apply z6.mapMList|apply z6.foldlMList|apply z6.forInRange' |apply z6.ite|intro _)|split|dsimp only)
theorem O9 {P:eA}:(∀a0 k es,z6 P Any (Instr.findKey a0 k es))∧
  (∀t x low a1 a2,z6 P Any (Instr.sliceAt t x low a1 a2)):=by
 refine⟨?_,?_⟩<;>intros<;>(first|unfold Go.Instr.findKey|unfold Go.Instr.sliceAt)
 all_goals
  repeat' (first|exact trivial|exact fun _=>trivial|with_reducible (first|assumption|exact zj|exact(qK _ _ _ _)|exact(zk _)|exact(kL _ _ _ _ _)|exact(Yk _ _ _ _ _ _)|exact(yO _)|exact(Zo _)|apply z6.bind0|apply z6.map0|apply z6.forInArray|apply z6.forInRange|apply z6.forInList|apply z6.mapMArray|apply z6.mapMList|apply z6.foldlMList|apply z6.forInRange' |apply z6.ite|intro _)|split|dsimp only)
theorem vG {P}(keyType)(k)(es):z6 P Any (Instr.findKey keyType k es):=O9.1 _ _ _
theorem vD {P}(t)(x)(low)(high)(max):z6 P Any (Instr.sliceAt t x low high max):=O9.2 _ _ _ _ _
theorem VD {P:eA}:(∀a3 x a2 a1,z6 P Any (Instr.lookup a3 x a2 a1))∧
  (∀a0 map key value,z6 P Any (Instr.mapUpdate a0 map key value))∧
  (∀argTypes _type args,z6 P Any (eR argTypes _type args))∧
  (∀a0 map key,z6 P Any (Instr.mapEntry a0 map key)):=by
 refine⟨?_,?_,?_,?_⟩<;>intros<;>(first|unfold Go.Instr.lookup|unfold Go.Instr.mapUpdate|unfold Go.Builtin.delete_|unfold Go.Instr.mapEntry)
 all_goals
  repeat' (first|exact trivial|exact fun _=>trivial|with_reducible (first|assumption|exact zj|exact(QS _ _ _ _)|exact(vG _ _ _)|exact(YD _ _ _)|exact(zk _)|exact(yy _)|exact(XP _ _)|exact(zz _)|apply z6.bind0|apply z6.map0|apply z6.forInArray|apply z6.forInRange|apply z6.forInList|apply z6.mapMArray|apply z6.mapMList|apply z6.foldlMList|apply z6.forInRange' |apply z6.ite|intro _)|split|dsimp only)
theorem VI {P}(xType)(x)(index)(commaOk):z6 P Any (Instr.lookup xType x index commaOk):=VD.1 _ _ _ _
theorem x4 {P}(mapType)(map)(key)(value):z6 P Any (Instr.mapUpdate mapType map key value):=VD.2.1 _ _ _ _
theorem Q8 {P}(argTypes)(_type)(args):z6 P Any (eR argTypes _type args):=VD.2.2.1 _ _ _
theorem QP {P}(mapType)(map)(key):z6 P Any (Instr.mapEntry mapType map key):=VD.2.2.2 _ _ _
def Xv:Next→Prop
 | .value _| .skip| .enter _ _| .round .. | .defer _| .recover| .spawn _| .comm .. =>True
 | .coroswitch _ e=>e=true
 |_=>False
def j4 :Next→Prop
 | .row r _=>r= "runtime.print$piece"
 |n=>Xv n
theorem vz {n:Next}(h:Xv n):j4 n:=by cases n<;>first|exact h|exact h.elim
def Zq (P:eA){α:Type}(F:α→Prop):Sem α→Prop
 | .pure a=>F a
 | .load _ _ k=>∀v,Zq P F (k v)
 | .store _ _ _ k=>Zq P F k
 | .new _ k=>∀r,Zq P F (k r)
 | .shape _ k=>∀s,Zq P F (k s)
 | .freeze _ _ k=>Zq P F k
 | .frozen _ k=>∀b,Zq P F (k b)
 | .getObj _ k=>∀o,Zq P F (k o)
 | .setObj _ _ k=>Zq P F k
 | .choose _ k=>∀n,Zq P F (k n)
 | .sys _ k=>(∃h,k .wouldBlock= .halt h∧QK h)∧∀r,Zq P F (k r)
 | .program k=>Zq P F (k P)
 | .mark _ k=>Zq P F k
 | .halt h=>kC h∨h= .blocked
section
variable {P:eA}{α β:Type}
theorem z6.fair {F:α→Prop}:∀{s:Sem α},z6 P F s→Zq P F s:=by
 intro s;induction s with
 |pure a=>exact id
 |load m a k ih=>exact fun x v=>ih v (x v)
 |store m a v k ih=>exact ih
 |new o k ih=>exact fun x v=>ih v (x v)
 |shape r k ih=>exact fun x v=>ih v (x v)
 |freeze a n k ih=>exact ih
 |frozen a k ih=>exact fun x v=>ih v (x v)
 |getObj r k ih=>exact fun x v=>ih v (x v)
 |setObj r o k ih=>exact ih
 |choose q k ih=>exact fun x v=>ih v (x v)
 |sys c k ih=>exact fun x=>⟨x.1,fun r=>ih r (x.2 r)⟩
 |program k ih=>exact ih P
 |mark m k ih=>exact fun x=>ih x.2
 |halt x=>exact .inl
theorem Zq.bind' {F:α→Prop}{G:β→Prop}{f:α→Sem β}(hf:∀a,F a→Zq P G (f a)):∀{s:Sem α},Zq P F s→Zq P G (s.bind f):=by
 intro s;induction s with
 |pure a=>exact hf a
 |load m a k ih=>exact fun x v=>ih v (x v)
 |store m a v k ih=>exact ih
 |new o k ih=>exact fun x v=>ih v (x v)
 |shape r k ih=>exact fun x v=>ih v (x v)
 |freeze a n k ih=>exact ih
 |frozen a k ih=>exact fun x v=>ih v (x v)
 |getObj r k ih=>exact fun x v=>ih v (x v)
 |setObj r o k ih=>exact ih
 |choose q k ih=>exact fun x v=>ih v (x v)
 |sys c k ih=>exact fun x=>⟨let⟨h,h1,h2⟩:=x.1;⟨h,by show(k .wouldBlock).bind f=_;rw[h1];rfl,h2⟩,fun r=>ih r (x.2 r)⟩
 |program k ih=>exact ih P
 |mark m k ih=>exact ih
 |halt x=>exact id
theorem Zq.bind {F:α→Prop}{G:β→Prop}{f:α→Sem β}{s:Sem α}(hs:Zq P F s)(hf:∀a,F a→Zq P G (f a)):Zq P G (s>>=f):=Zq.bind' hf hs
theorem z6.value {F:Next→Prop}{s:Sem eB}(h:z6 P Any s)(hv:∀v,F (.value v)):z6 P F (do pure (.value (←s))):=z6.bind0 h hv
theorem z6.unit {s:Sem Unit}(h:z6 P Any s):z6 P Xv (do s;pure .skip):=z6.bind0 h fun _=>trivial
end
section
variable {P:eA}
theorem kI (t:TypeId)(x y:eB):z6 P Any (movedNumber t x y):=by
 unfold movedNumber;repeat' (first
  |exact trivial
  |(first|with_reducible exact zk _|with_reducible exact zu _|with_reducible exact ZS _ _ _|with_reducible exact yn _|with_reducible exact ve _ _)
  |with_reducible refine z6.bind0 ?_ (fun _=> ?_)
  |with_reducible refine z6.ite (fun _=> ?_) (fun _=> ?_)
  |split
  |dsimp only)
theorem VC (t:TypeId)(x y:eB):z6 P Any (movedPointer t x y):=by
 unfold movedPointer;repeat' (first
  |exact trivial
  |(first|with_reducible exact v8 _|with_reducible exact zu _|with_reducible exact ZS _ _ _)
  |with_reducible refine z6.bind0 ?_ (fun _=> ?_)
  |with_reducible refine z6.ite (fun _=> ?_) (fun _=> ?_)
  |split
  |dsimp only)
theorem Ux (op:BinOp)(t:TypeId)(x y:Operand)(a b:eB):z6 P Any (eqGuard op t x y a b):=by
 unfold eqGuard;repeat' (first
  |exact trivial
  |(first|with_reducible exact VG _ _ _ _|with_reducible exact zu _|with_reducible exact zS)
  |with_reducible refine z6.bind0 ?_ (fun _=> ?_)
  |with_reducible refine z6.ite (fun _=> ?_) (fun _=> ?_)
  |split
  |dsimp only)
theorem G8 (op:BinOp)(t:TypeId)(x y:eB):z6 P Any (binOp op t x y):=by
 unfold binOp;repeat' (first
  |exact trivial
  |(first|with_reducible exact Jv _ _ _ _ _|with_reducible exact mild_Op_intArith _ _ _ _|with_reducible exact jO _ _ _ _|with_reducible exact mild_Op_intBits _ _ _ _|with_reducible exact jP _ _ _|with_reducible exact xV _ _ _ _|with_reducible exact XM _ _ _ _|with_reducible exact VH _ _ _ _ _ _|with_reducible exact XL _ _ _|with_reducible exact vf _ _ _|with_reducible exact zk _|with_reducible exact VC _ _ _|with_reducible exact kI _ _ _|with_reducible exact yn _|with_reducible exact KL _ _ _|with_reducible exact KN _ _ _|with_reducible exact KM _ _ _|with_reducible exact zu _|with_reducible exact ZM _)
  |with_reducible refine z6.bind0 ?_ (fun _=> ?_)
  |with_reducible refine z6.ite (fun _=> ?_) (fun _=> ?_)
  |split
  |dsimp only)
theorem Uy (a1 a0:TypeId)(x:eB):z6 P Any (convert a1 a0 x):=by
 unfold convert;repeat' (first
  |exact trivial
  |(first|with_reducible exact zk _|with_reducible exact mild_Conv_intToInt _ _|with_reducible exact mild_Conv_intToFloat _ _|with_reducible exact Q7 _ _ _|with_reducible exact Yl _ _ _|with_reducible exact xX _ _ _ _|with_reducible exact mild_Conv_intToString _|with_reducible exact XT _ _|with_reducible exact XS _ _|with_reducible exact Y4 _|with_reducible exact XV _|with_reducible exact XU _|with_reducible exact XR _ _ _|with_reducible exact zu _|with_reducible exact ZM _)
  |with_reducible refine z6.bind0 ?_ (fun _=> ?_)
  |with_reducible refine z6.ite (fun _=> ?_) (fun _=> ?_)
  |split
  |dsimp only)
end
structure zH (P:eA):Prop where
 count:∀(f:Nat) (fn:Func),P.funcs[f]? =some fn→(fn.name== "runtime.NumGoroutine")=false
 next:∀(f:Nat) (fn:Func),P.funcs[f]? =some fn→fn.body.isNone=true→Extern.findNext fn=none
 find:∀(f:Nat) (fn:Func) (e:Array eB→Sem eB),P.funcs[f]? =some fn→fn.body.isNone=true→Extern.find fn=some e→∀args,z6 P Any (e args)
def evens (es:Array eS)(es' :Array eS):Prop:=∀d,deafBehind d es' =deafBehind d es
def Result.good {α:Type}:Result α→Prop
 | .ok _ _| .halt (.panic _) _=>True
 |_=>False
def Bal (P:eA){α:Type}(s:Sem α):Prop:=∀w es,Result.good (s.runT P w es).1→evens es (s.runT P w es).2
section
variable {P:eA}{α β:Type}
theorem yD {es:Array eS}{e:eS}(h1:e.loc≠ .mark .disable)(h2:e.loc≠ .mark .enable):evens es (es.push e):=by
 intro d;unfold deafBehind;rw[eT];obtain⟨a0,wr,sy⟩:=e
 cases a0 with
 |mark m=>cases m<;>simp_all
 |_=>rfl
theorem evens.trans {a b c:Array eS}(h:evens a b)(h' :evens b c):evens a c:=fun d=>(h' d).trans (h d)
theorem kh {es:Array eS}{l:List Addr}{wr sy:Bool}:evens es (es++(l.toArray.map (fun a=>(⟨.cell a,wr,sy⟩:eS)))):=by
 induction l generalizing es with
 |nil=>intro d;simp
 |cons a l ih=>
  have e:es++((a::l).toArray.map (fun a=>(⟨.cell a,wr,sy⟩:eS)))=es.push ⟨.cell a,wr,sy⟩++(l.toArray.map (fun a=>(⟨.cell a,wr,sy⟩:eS))):=by
   apply Array.ext';simp
  rw[e];exact(yD (by simp) (by simp)).trans ih
theorem z6.evens {F:α→Prop}:∀{s:Sem α},z6 P F s→∀w es,Go.Proofs.YtolgebdmffcemaaGreatDoor.evens es (s.runT P w es).2:=by
 intro s;induction s with
 |pure a=>exact fun _ w es d=>rfl
 |load m a k ih=>
  intro h w es;simp only[Sem.runT]
  cases w.cell? a with
  |some v=>exact(yD (by simp) (by simp)).trans (ih v (h v) w _)
  |none=>
   cases w.farLoad P a (m== .atomic)with
   |ok r=>exact kh.trans (ih r.1 (h r.1) w _)
   |error e=>exact fun d=>rfl
 |store m a v k ih=>
  intro h w es;by_cases hv:(∃x,v= .agg x)∨∃x,v= .tuple x
  ·rcases hv with⟨x,rfl⟩|⟨x,rfl⟩<;>exact fun d=>rfl
  ·have e:(Sem.store m a v k).runT P w es=match w.cell? a with
     |some _=>if w.frozen? a then(.halt (.unsupported (.unsafePointer "a write to bytes that a string shares")) w,es)else k.runT P (w.setCell a v) (es.push ⟨.cell a,true,m== .atomic⟩)
     |none=>match w.farStore P a v (m== .atomic)with
      | .ok (u',touched)=>k.runT P u' (es++touched.toArray.map (⟨.cell ·,true,m== .atomic⟩))
      | .error h=>(.halt h w,es):=by
    cases v<;>first|rfl|(exfalso;exact hv (.inl ⟨_,rfl⟩))|(exfalso;exact hv (.inr ⟨_,rfl⟩))
   rw[e]
   cases w.cell? a with
   |some x=>
    by_cases hf:w.frozen? a=true
    ·simp only[hf,if_true];exact fun d=>rfl
    ·simp only[hf,if_false,eU]
     exact(yD (by simp) (by simp)).trans (ih h _ _)
   |none=>
    cases w.farStore P a v (m== .atomic)with
    |ok r=>exact kh.trans (ih h _ _)
    |error e=>exact fun d=>rfl
 |new o k ih=>exact fun h w es=>ih _ (h _) _ _
 |shape r k ih=>exact fun h w es=>ih _ (h _) _ _
 |freeze a n k ih=>exact fun h w es=>ih h _ _
 |frozen a k ih=>exact fun h w es=>ih _ (h _) _ _
 |getObj r k ih=>
  intro h w es;simp only[Sem.runT]
  cases w.heap[r]? with
  |none=>exact fun d=>rfl
  |some o=>cases o<;>first|exact fun d=>rfl|exact(yD (by simp) (by simp)).trans (ih _ (h _) _ _)
 |setObj r o k ih=>
  intro h w es;simp only[Sem.runT]
  cases w.heap[r]? with
  |none=>exact fun d=>rfl
  |some x=>cases x<;>first|exact fun d=>rfl|exact(yD (by simp) (by simp)).trans (ih h _ _)
 |choose q k ih=>
  intro h w es;simp only[Sem.runT];split
  all_goals
   exact ih _ (h _) _ _
 |sys c k ih=>exact fun h w es=>(yD (by simp) (by simp)).trans (ih _ (h.2 _) _ _)
 |program k ih=>exact fun h w es=>ih P h _ _
 |mark m k ih=>exact fun h w es=>(yD (fun e=>h.1.1 (by injection e)) (fun e=>h.1.2 (by injection e))).trans (ih h.2 _ _)
 |halt x=>exact fun _ w es d=>rfl
theorem z6.bal {F:α→Prop}{s:Sem α}(h:z6 P F s):Bal P s:=fun w es _=>h.evens w es
end
def kr (P:eA)(s:Sem Next):Prop:=Zq P j4 s∧Bal P s
section
variable {P:eA}{α β:Type}
theorem Zq.mono {F G:α→Prop}(h:∀a,F a→G a):∀{s:Sem α},Zq P F s→Zq P G s:=by
 intro s;induction s with
 |pure a=>exact h a
 |load m a k ih=>exact fun x v=>ih v (x v)
 |store m a v k ih=>exact ih
 |new o k ih=>exact fun x v=>ih v (x v)
 |shape r k ih=>exact fun x v=>ih v (x v)
 |freeze a n k ih=>exact ih
 |frozen a k ih=>exact fun x v=>ih v (x v)
 |getObj r k ih=>exact fun x v=>ih v (x v)
 |setObj r o k ih=>exact ih
 |choose q k ih=>exact fun x v=>ih v (x v)
 |sys c k ih=>exact fun x=>⟨x.1,fun r=>ih r (x.2 r)⟩
 |program k ih=>exact ih P
 |mark m k ih=>exact ih
 |halt x=>exact id
theorem z6.tame {s:Sem Next}(h:z6 P Xv s):kr P s:=⟨h.fair.mono fun _=>vz,h.bal⟩
theorem Bal.bind {F:α→Prop}{s:Sem α}{f:α→Sem β}(hs:z6 P F s)(hf:∀a,Bal P (f a)):Bal P (s>>=f):=by
 intro w es;have h1:=hs.evens w es;have e:(s>>=f).runT P w es=_:=Sem.runT_bind' P s f w es;rw[e];generalize s.runT P w es=x at h1;obtain⟨r,a0⟩:=x
 cases r with
 |ok a w1=>exact fun h=>h1.trans (hf a w1 a0 h)
 |halt h w1=>exact fun _=>h1
theorem kr.bind {s:Sem α}{f:α→Sem Next}(hs:z6 P Any s)(hf:∀a,kr P (f a)):kr P (s>>=f):=⟨Zq.bind hs.fair fun a _=>(hf a).1,Bal.bind hs fun a=>(hf a).2⟩
end
section
variable {P:eA}
theorem UA (b:Builtin)(h1:b≠ .print)(h2:b≠ .println)(argTypes:Array TypeId)(a1:TypeId)(a0:Array Bool)(args:Array eB):z6 P Xv (builtin b argTypes a1 a0 args):=by
 unfold builtin
 cases b with
 |print=>exact absurd rfl h1
 |println=>exact absurd rfl h2
 |append=>exact z6.value (Q9 _ _ _) fun _=>trivial
 |cap=>exact z6.value (VQ _ _ _) fun _=>trivial
 |clear=>exact z6.value (QV _ _ _) fun _=>trivial
 |close=>exact z6.value (QU _ _ _) fun _=>trivial
 |complex=>exact z6.value (qP _ _ _) fun _=>trivial
 |copy=>exact z6.value (vN _ _ _) fun _=>trivial
 |delete=>exact z6.value (Q8 _ _ _) fun _=>trivial
 |imag=>exact z6.value (vM _ _ _) fun _=>trivial
 |len=>exact z6.value (yp _ _ _) fun _=>trivial
 |max=>exact z6.value (VN _ _ _) fun _=>trivial
 |min=>exact z6.value (VK _ _ _) fun _=>trivial
 |panic=>exact z6.value (XO _) fun _=>trivial
 |real=>exact z6.value (vK _ _ _) fun _=>trivial
 |unsafeAdd=>exact z6.value (ZS _ _ _) fun _=>trivial
 |unsafeSlice=>exact z6.value (Xh _ _ _) fun _=>trivial
 |unsafeSliceData=>exact z6.value (x6 _ _ _) fun _=>trivial
 |unsafeString=>exact z6.value (xY _ _ _) fun _=>trivial
 |unsafeStringData=>exact z6.value (YE _ _ _) fun _=>trivial
 |unsafeSizeof=>exact z6.bind0 (Za _) fun _=>trivial
 |_=>exact trivial
theorem Xx (hP:zH P)(f:FuncId)(args:Array eB):z6 P Xv (callFunc f args):=by
 unfold callFunc;refine z6.bind Uv (fun p hp=> ?_);subst hp
 cases hf:p.funcs[f]? with
 |none=>exact trivial
 |some fn=>
  simp only[hP.count f fn hf,eU,if_false];refine z6.ite (fun hb=> ?_) (fun _=>trivial);have hn:=hP.next f fn hf hb;refine z6.bind0 (fU _ ⟨by simp,by simp⟩) (fun _=> ?_);simp only[hn]
  cases he:Extern.find fn with
  |some e=>exact z6.bind0 (hP.find f fn e hf hb he args) fun _=>trivial
  |none=>
   dsimp only;exact z6.ite (fun _=>trivial) (fun _=>trivial)
theorem Zk {α:Type}{F:α→Prop}(e:RuntimeError):z6 P F (runtimePanic e:Sem α):=by
 unfold runtimePanic;refine z6.bind0 zS (fun p=> ?_)
 cases e with
 |typeAssertion i c a m=>exact z6.bind0 (yB _) fun _=>z6.bind0 (Xr _ _) fun _=>trivial
 |panicNil=>exact z6.bind0 (yB _) fun _=>z6.bind0 (Xr _ _) fun _=>trivial
 |_=>exact trivial
theorem qD (hP:zH P)(a0:eB)(name:String)(args:Array eB):z6 P Xv (callMethod a0 name args):=by
 unfold callMethod;split
 ·refine z6.bind0 zS (fun _=>z6.bind0 (Km _ _ _ _) (fun _=> ?_))
  exact Xx hP _ _
 ·exact Zk _
 ·exact trivial
theorem ug:z6 P Any Extern.PrintPieces.held:=by
 unfold Extern.PrintPieces.held;refine z6.bind0 zS (fun p=>z6.bind0 (yJ _ _) (fun v=> ?_))
 cases v<;>exact trivial
theorem xF (fd:Nat)(b:ByteArray):Zq P Any (writeFd fd b):=by
 refine⟨⟨_,rfl,trivial⟩,fun r=> ?_⟩
 cases r<;>first|exact .inl trivial|exact trivial
theorem xM (m:Mark):Zq P Any (mark m):=trivial
theorem vT (args:Array eB):Zq P j4 (Extern.PrintPieces.piece #[] #[] args):=by
 unfold Extern.PrintPieces.piece;split
 ·rename_i first h1
  clear h1;split
  ·rename_i p h2
   clear h2;dsimp only;generalize(args.size==2)=last;by_cases hp:p.size>65536<;>simp only[hp,if_true,if_false]
   ·exact .inl trivial
   ·cases first<;>cases last<;>simp only[eU,eV,eW,if_true,if_false]
    ·exact Zq.bind (xF _ _) fun _ _=>rfl
    ·exact Zq.bind (xF _ _) fun _ _=>Zq.bind (xM _) fun _ _=>Zq.bind zS.fair fun _ _=>Zq.bind (Z_ _ _ _).fair fun _ _=>Zq.bind (xM _) fun _ _=>trivial
    ·refine Zq.bind (xM _) fun _ _=>Zq.bind ug.fair fun b _=> ?_
     cases b
     ·exact Zq.bind zS.fair fun _ _=>Zq.bind (Z_ _ _ _).fair fun _ _=>Zq.bind (xM _) fun _ _=>Zq.bind (xF _ _) fun _ _=>rfl
     ·exact .inr rfl
    ·refine Zq.bind (xM _) fun _ _=>Zq.bind ug.fair fun b _=> ?_
     cases b
     ·exact Zq.bind (xM _) fun _ _=>Zq.bind (xF _ _) fun _ _=>trivial
     ·exact .inr rfl
  ·exact .inl trivial
 ·exact .inl trivial
def zX (P:eA){α:Type}(g:Nat→Nat)(s:Sem α):Prop:=∀w es,match(s.runT P w es).1 with
 | .ok _ _=>∀d,deafBehind d (s.runT P w es).2=g (deafBehind d es)
 | .halt h _=>∀v,h≠ .panic v
theorem zX.bind {α β:Type}{g h:Nat→Nat}{s:Sem α}{f:α→Sem β}(hs:zX P g s)(hf:∀a,zX P h (f a)):zX P (fun d=>h (g d)) (s>>=f):=by
 intro w es;have h1:=hs w es;have e:(s>>=f).runT P w es=_:=Sem.runT_bind' P s f w es;rw[e];generalize s.runT P w es=x at h1;obtain⟨r,a0⟩:=x
 cases r with
 |ok a w1=>
  have h2:=hf a w1 a0;simp only at h1⊢;generalize(f a).runT P w1 a0=y at h2⊢;obtain⟨r2,a1⟩:=y
  cases r2 with
  |ok b w2=>intro d;simp only at h2⊢;rw[h2 d,h1 d]
  |halt x w2=>exact h2
 |halt h w1=>exact h1
theorem zX.bal {α:Type}{s:Sem α}(h:zX P (fun d=>d) s):Bal P s:=by
 intro w es hg;have:=h w es;generalize s.runT P w es=x at this hg;obtain⟨r,a0⟩:=x
 cases r with
 |ok a w1=>exact this
 |halt h w1=>cases h<;>first|exact absurd rfl (this _)|exact hg.elim
theorem xP:zX P (·+1) (mark .disable):=by
 intro w es;show∀d,deafBehind d (es.push _)=_
 intro d;unfold deafBehind;rw[eT]
theorem Xu:zX P (· - 1) (mark .enable):=by
 intro w es;show∀d,deafBehind d (es.push _)=_
 intro d;unfold deafBehind;rw[eT]
theorem xO:zX P (fun d=>d) (program:Sem eA):=fun _ _ _=>rfl
theorem YU {α:Type}(a:α):zX P (fun d=>d) (pure a:Sem α):=fun _ _ _=>rfl
theorem ue (w:eX)(a:Addr)(s:String)(v:eB):w.noCell a s≠ .panic v:=by
 unfold World.noCell;split<;>exact fun h=>by cases h
theorem Gq {w:eX}{a:Addr}{b:Bool}{h:Halt}(hx:w.farLoad P a b= .error h)(v:eB):h≠ .panic v:=by
 unfold World.farLoad at hx;split at hx
 ·split at hx
  ·cases hx
  ·cases hx;exact fun h=>by cases h
 ·cases hx;exact ue _ _ _ _
theorem OJ {w:eX}{a:Addr}{x:eB}{b:Bool}{h:Halt}(hx:w.farStore P a x b= .error h)(v:eB):h≠ .panic v:=by
 unfold World.farStore at hx;split at hx
 ·split at hx
  ·cases hx
  ·cases hx;exact fun h=>by cases h
 ·cases hx;exact ue _ _ _ _
theorem JV {α:Type}{F:α→Prop}{s:Sem α}(h:z6 P F s)(hn:∀w es h w' v,(s.runT P w es).1= .halt h w' →h≠ .panic v):zX P (fun d=>d) s:=by
 intro w es;have h1:=h.evens w es;have h2:=hn w es;generalize s.runT P w es=x at h1 h2;obtain⟨r,a0⟩:=x
 cases r with
 |ok a w1=>exact h1
 |halt h w1=>exact fun v=>h2 h w1 v rfl
theorem oI (a:Addr)(m:Mode):zX P (fun d=>d) (load a m):=by
 refine JV (yJ a m) fun w es h w' v=> ?_
 simp only[load,Sem.runT]
 cases w.cell? a with
 |some v=>exact fun h=>by cases h
 |none=>
  cases hx:w.farLoad P a (m== .atomic)with
  |ok r=>exact fun h=>by cases h
  |error e=>exact fun h=>by cases h;exact Gq hx v
theorem XE (a:Addr)(b:Bool)(m:Mode):zX P (fun d=>d) (store a (.bool b) m):=by
 refine JV (Z_ a (.bool b) m) fun w es h w' v=> ?_
 simp only[store,Sem.runT]
 cases w.cell? a with
 |some v=>
  dsimp only;by_cases hf:w.frozen? a=true
  ·rw[if_pos hf];intro h;cases h;exact fun h=>by cases h
  ·rw[if_neg hf];exact fun h=>by cases h
 |none=>
  cases hx:w.farStore P a (.bool b) (m== .atomic)with
  |ok r=>exact fun h=>by cases h
  |error e=>exact fun h=>by cases h;exact OJ hx v
theorem Yg (fd:Nat)(b:ByteArray):zX P (fun d=>d) (writeFd fd b):=by
 intro w es;unfold writeFd;simp only[Sem.runT]
 cases(w.sys (.write fd b)).1<;>first|exact yD (by simp) (by simp)|exact fun v h=>by cases h
theorem Kc:zX P (fun d=>d) Extern.PrintPieces.held:=by
 unfold Extern.PrintPieces.held;refine zX.bind xO (fun p=>zX.bind (oI _ _) (fun v=> ?_))
 cases v<;>first|exact YU _|exact fun _ _ _ h=>by cases h
theorem uQ (args:Array eB):Bal P (Extern.PrintPieces.piece #[] #[] args):=by
 unfold Extern.PrintPieces.piece;split
 ·rename_i first h1
  clear h1;split
  ·rename_i p h2
   clear h2;dsimp only;generalize(args.size==2)=last;by_cases hp:p.size>65536<;>simp only[hp,if_true,if_false]
   ·exact z6.bal (F:=Any) trivial
   ·cases first<;>cases last<;>simp only[eU,eV,eW,if_true,if_false]
    ·exact(zX.bind (Yg _ _) fun _=>YU _).bal
    ·exact(zX.bind (Yg _ _) fun _=>zX.bind xP fun _=>zX.bind xO fun _=>zX.bind (XE _ _ _) fun _=>zX.bind Xu fun _=>YU _).bal
    ·refine zX.bal (s:=mark .disable>>=_) (zX.bind (g:=(·+1)) (h:=(· - 1)) xP fun _=>zX.bind Kc fun b=> ?_)
     cases b
     ·exact zX.bind xO fun _=>zX.bind (XE _ _ _) fun _=>zX.bind Xu fun _=>zX.bind (Yg _ _) fun _=>YU _
     ·exact fun _ _ _ h=>by cases h
    ·refine zX.bal (s:=mark .disable>>=_) (zX.bind (g:=(·+1)) (h:=(· - 1)) xP fun _=>zX.bind Kc fun b=> ?_)
     cases b
     ·exact zX.bind Xu fun _=>zX.bind (Yg _ _) fun _=>YU _
     ·exact fun _ _ _ h=>by cases h
  ·exact z6.bal (F:=Any) trivial
 ·exact z6.bal (F:=Any) trivial
theorem js (ln:Bool)(a0:Array Bool)(argTypes:Array TypeId)(args:Array eB):kr P (eY ln a0 argTypes args):=by
 unfold eY;refine kr.bind (QT _ _ _ _) (fun ps=> ?_);split
 ·exact z6.tame (s:=pure _) trivial
 ·exact⟨vT _,uQ _⟩
theorem G5 (l:Nat)(args:Array eB):z6 P Xv (Instr.yield l args):=by
 unfold Instr.yield;refine z6.bind0 (Y6 _) (fun r=> ?_);dsimp only;exact z6.ite (fun _=>trivial) (fun _=>trivial)
theorem Uw (f:eB)(args:Array eB):z6 P Any (Deferred.ofValue f args):=by
 unfold Deferred.ofValue;split<;>exact trivial
theorem y5 (ρ:Operand→eB)(c:Call)(a0:TypeId):z6 P Any (resolve ρ c a0):=by
 unfold resolve;dsimp only;split
 ·exact trivial
 ·exact trivial
 ·exact Uw _ _
theorem ZW (hP:zH P)(t:Target)(args:Array eB):kr P (invoke t args):=by
 unfold invoke
 cases t with
 |nil=>exact(Zk _).tame
 |builtin b argTypes a3 a2=>
  by_cases h1:b= .print
  ·subst h1;exact js _ _ _ _
  ·by_cases h2:b= .println
   ·subst h2;exact js _ _ _ _
   ·exact(UA b h1 h2 _ _ _ _).tame
 |collected r=>exact z6.tame (s:=stuck _) trivial
 |coroexit c=>exact z6.tame (s:=pure _) rfl
 |fn fn a0=>
  cases fn with
  |func f=>exact(Xx hP _ _).tame
  |method name=>
   dsimp only;split
   ·exact(qD hP _ _ _).tame
   ·exact z6.tame trivial
  |methodOf t name=>
   dsimp only;split
   ·exact kr.bind (zk _) fun _=>(qD hP _ _ _).tame
   ·exact z6.tame trivial
  |via t path f a1=>
   dsimp only;split
   ·exact kr.bind (kH _ _ _ _) fun _=>(Xx hP _ _).tame
   ·exact z6.tame trivial
  |yield l=>exact(G5 _ _).tame
end
section
variable {P:eA}
theorem Ka (hP:zH P)(ρ:Operand→eB)(o:Oper):kr P (execOp ρ o):=by
 unfold execOp;dsimp only
 cases o.op with
 |move x=>exact z6.tame (s:=pure _) trivial
 |assign x=>exact z6.tame (s:=pure _) trivial
 |pick c a b=>
  refine z6.tame ?_;dsimp only;refine z6.bind0 (Kp _) (fun _=> ?_);exact trivial
 |alloc a3=>exact(z6.value (kR _ _ _) fun _=>trivial).tame
 |box a3 x=>exact(z6.value (jQ _ _) fun _=>trivial).tame
 |build t a2=>exact(z6.value (kQ _ _) fun _=>trivial).tame
 |buildSlice t len a2=>exact(z6.value (qM _ _ _) fun _=>trivial).tame
 |insert t m k x=>exact(z6.unit (x4 _ _ _ _)).tame
 |load t a=>exact(z6.value (VJ _ _) fun _=>trivial).tame
 |store t a x=>exact(z6.unit (vC _ _ _)).tame
 |ready g=>exact(z6.unit (kM _)).tame
 |waits g=>exact(z6.value (kK _) fun _=>trivial).tame
 |nilCheck x=>
  refine z6.tame ?_;dsimp only;split
  ·exact Zk _
  ·exact Zk _
  ·exact Zk _
  ·split
   ·exact Zk _
   ·refine z6.bind0 zS (fun _=>z6.bind0 (Jt _ _ _ _) (fun _=> ?_))
    exact z6.ite (fun _=>trivial) (fun _=>trivial)
   ·exact trivial
  ·exact trivial
 |binOp op t x y u=>exact(z6.value (z6.bind0 (Ux _ _ _ _ _ _) fun _=>G8 _ _ _ _) fun _=>trivial).tame
 |unOp op t x=>exact(z6.value (Ju _ _) fun _=>trivial).tame
 |convert a6 a5 x=>exact(z6.value (Uy _ _ _) fun _=>trivial).tame
 |sliceToArrayPointer a4 x=>exact(z6.value (vJ _ _) fun _=>trivial).tame
 |makeInterface t x=>exact(z6.value (Xz _ _) fun _=>trivial).tame
 |makeFunc fn first a0=>exact(z6.value (QQ _ _ _) fun _=>trivial).tame
 |makeMap t r=>exact(z6.value (vE _ _) fun _=>trivial).tame
 |makeChan t s=>exact(z6.value (QR _ _) fun _=>trivial).tame
 |makeSlice t l c=>exact(z6.value (Q6 _ _ _) fun _=>trivial).tame
 |slice t x lo hi mx=>exact(z6.value (vD _ _ _ _ _) fun _=>trivial).tame
 |fieldAddr s x f=>exact(z6.value (vH _ _ _) fun _=>trivial).tame
 |field t x f=>exact(z6.value (XQ _ _ _) fun _=>trivial).tame
 |indexAddr t x ix=>exact(z6.value (vF _ _ _) fun _=>trivial).tame
 |index t x ix=>exact(z6.value (YD _ _ _) fun _=>trivial).tame
 |lookup t x ix ok=>exact(z6.value (VI _ _ _ _) fun _=>trivial).tame
 |mapUpdate t m k x=>exact(z6.unit (x4 _ _ _ _)).tame
 |mapEntry t m k=>exact(z6.value (QP _ _ _) fun _=>trivial).tame
 |entryStore t m s x=>exact(z6.unit (qL _ _ _ _)).tame
 |range t x=>exact(z6.value (kN _ _) fun _=>trivial).tame
 |next it a1=>exact(z6.value (KP _ _ _) fun _=>trivial).tame
 |entry it=>exact(z6.value (kP _) fun _=>trivial).tame
 |typeAssert x t a ok=>exact(z6.value (qI _ _ _ _) fun _=>trivial).tame
 |extract t ix=>exact(z6.value (vI _ _) fun _=>trivial).tame
 |call c=>exact kr.bind (y5 _ _ _) fun d=>ZW hP _ _
 |go c=>
  refine z6.tame ?_;dsimp only;refine z6.bind0 (y5 _ _ _) (fun _=> ?_);exact trivial
 |defer c=>
  refine z6.tame ?_;dsimp only;refine z6.bind0 (y5 _ _ _) (fun _=> ?_);exact trivial
 |panic x=>exact(z6.value (XO _) fun _=>trivial).tame
 |send ch x=>exact z6.tame (s:=pure _) trivial
 |recv t ch ok=>
  refine z6.tame ?_;dsimp only;refine z6.bind0 (zk _) (fun d=> ?_)
  cases d<;>first|exact trivial|(refine z6.bind0 (yy _) (fun _=> ?_);exact trivial)
 |select cases blocking=>
  refine z6.tame ?_;dsimp only;refine z6.bind0 (z6.mapMArray _ (fun _=> ?_) _) (fun _=> ?_)
  ·refine z6.bind0 (yy _) (fun _=> ?_);exact trivial
  ·exact trivial
end
theorem YR (p:eA)(gs:Array eZ)(r:Option Nat)(work:List Item)(b:Bool):gs.size≤(giveWork p gs r work b).1.size:=by
 unfold giveWork;repeat' (first|split|dsimp only)
 all_goals simp
theorem uj {p:eA}{gs:Array eZ}{rest:Rest}{w:eX}{m:hU}(h:look p gs rest w= .next m):gs.size≤m.gs.size:=by
 unfold look at h;split at h
 ·dsimp only at h
  split at h
  ·cases h
  ·split at h
   ·cases h
   ·split at h
    ·injection h with h
     subst h;simp only;split
     ·split
      ·exact iA _
      ·exact YR _ _ _ _ _
     ·split
      ·exact YR _ _ _ _ _
      ·exact iB (YR _ _ _ _ _) (YR _ _ _ _ _)
    ·cases h
    ·cases h
 ·cases h
theorem vS (p:eA)(gs:Array eZ)(h k:Nat)(v:eB):(finishPartner p gs h k v).size=gs.size:=by
 unfold finishPartner;simp
theorem K1 {p:eA}{rest:Rest}{gs:Array eZ}{i:Nat}{g:eZ}{cases:Array CommCase}{b:Bool}{sh:CommShape}{w:eX}{m:hU}{ops:Array MemOp}
  (h:communicate p rest gs i g cases b sh w=(.next m,ops)):m.gs.size=gs.size:=by
 unfold communicate at h;dsimp only at h;repeat' (first
  |(injection h with h1 h2;injection h1 with h1;subst h1;simp[vS];done)
  |(injection h with h1 h2;cases h1;done)
  |split at h)
theorem oG {α:Type} [Inhabited α] (xs:Array α)(i:Nat)(v:α):(xs.swapAt! i v).2.size=xs.size:=by
 unfold Array.swapAt!;split
 ·simp[Array.swapAt]
 ·rfl
theorem fI {p:eA}{m m' :hU}{i:Nat}{b:Bool}{ops:Array MemOp}(h:runT p m i b=(.next m',ops)):m.gs.size≤m'.gs.size:=by
 unfold runT at h;dsimp only at h;have hs:=oG m.gs i ({(default:eZ)with status:= .finished});generalize m.gs.swapAt! i {(default:eZ)with status:= .finished}=x at h hs;obtain⟨g,gs⟩:=x;simp only at h hs;rw[←hs];generalize stepG p (i==0) g m.world b=s at h
 cases s with
 |go g' w es=>
  simp only at h;injection h with h1 h2
  injection h1 with h1
  subst h1;simp only;split<;>simp
 |comm g' c bl sh w es=>
  simp only at h;generalize hx:communicate p m.rest gs i g' c bl sh w=y at h;obtain⟨r,a0⟩:=y;simp only at h;injection h with h1 h2
  subst h1;exact Nat.le_of_eq (K1 hx).symm
 |spawn g' c w es=>simp only at h;injection h with h1 h2;injection h1 with h1;subst h1;simp
 |count g' w es=>
  simp only at h;injection h with h1 h2
  split at h1
  ·cases h1
  ·injection h1 with h1;subst h1;simp
 |timer g' op w es=>
  simp only at h;injection h with h1 h2
  repeat' (first
   |(injection h1 with h1;subst h1;simp;done)
   |(cases h1;done)
   |split at h1)
 |alone g' on w es=>simp only at h;injection h with h1 h2;injection h1 with h1;subst h1;simp
 |newcoro g' c d w es=>simp only at h;injection h with h1 h2;injection h1 with h1;subst h1;simp
 |coroswitch g' c e w es=>
  simp only at h;injection h with h1 h2
  repeat' (first
   |(injection h1 with h1;subst h1;simp;done)
   |(cases h1;done)
   |split at h1)
 |collect g' w es=>
  simp only at h;injection h with h1 h2
  exact iB (by simp) (uj h1)
 |watch g' w es=>simp only at h;injection h with h1 h2;injection h1 with h1;subst h1;simp
 |ended o w es=>simp only at h;injection h with h1 h2;cases h1
theorem gO {p:eA}{m m' :hU}{k:Nat}(h:serve p m k= .next m'):m.gs.size≤m'.gs.size:=by
 unfold serve at h;dsimp only at h;repeat' (first
  |(injection h with h1;subst h1;simp;done)
  |(cases h;done)
  |split at h)
def xS (n:Nat):Move→Prop
 | .goroutine m _=>n≤m.gs.size
 | .machine (.next m) _=>n≤m.gs.size
 |_=>True
theorem qA (p:eA)(m:hU):xS m.gs.size (askOn p m):=by
 unfold askOn;extract_lets mono rs ds pick
 have hp:∀m' :hU,m'.gs=m.gs→xS m.gs.size (pick m'):=by
  intro m' hm;simp only[pick];repeat' (first
   |exact trivial
   |(show m.gs.size≤m'.gs.size;rw[hm];exact iA _)
   |split)
 clear_value pick rs ds
 split
 ·exact trivial
 ·rename_i k world _
  dsimp only;split
  ·generalize hs:serve p {m with world:=world} (ds.getD k 0)=s
   cases s with
   |next m' =>exact gO (m:={m with world:=world}) hs
   |ended o w=>exact trivial
  ·cases rs with
   |nil=>
    simp only
    cases ahead {m with world:=world} false with
    |some t=>exact iA _
    |none=>
     simp only;split
     ·exact iA _
     ·generalize endWith world 2 _ _=e
      cases e<;>exact trivial
   |cons r rs=>
    simp only
    cases ahead {m with world:=world} true with
    |none=>exact hp _ rfl
    |some t=>
     simp only
     cases(choose (.extern "clock.wait" (t-mono+1))).run p world with
     |halt h w=>exact trivial
     |ok n w=>
      match n with
      |0=>exact hp _ rfl
      |1=>exact iA _
      |k+2=>exact hp _ rfl
theorem xS.mono {a b:Nat}{x:Move}(h:xS b x)(a0:a≤b):xS a x:=by
 cases x with
 |goroutine m i=>exact iB a0 h
 |machine s ops=>cases s with
  |next m=>exact iB a0 h
  |ended o w=>exact trivial
theorem gp (p:eA)(m:hU):xS m.gs.size (ask p m):=by
 unfold ask;split
 ·cases(choose (.extern "collector.look" 2)).run p m.world with
  |halt h w=>exact trivial
  |ok n w=>
   match n with
   |0=>exact qA p {m with world:=w}
   |1=>
    simp only
    cases hl:look p m.gs m.rest w with
    |next m' =>exact(qA p m').mono (uj hl)
    |ended o w=>exact trivial
   |k+2=>exact qA p {m with world:=w}
 ·exact qA p m
theorem fy {p:eA}{m m' :hU}(h:step p m= .next m'):m.gs.size≤m'.gs.size:=by
 unfold step stepT at h;have hm:xS m.gs.size (move p m):=by
  unfold move;split
  ·split
   ·exact iA _
   ·exact trivial
  ·split
   ·split
    ·exact iA _
    ·exact gp p {m with rest:={m.rest with slice:=none}}
   ·exact gp p m
 generalize move p m=x at h hm
 cases x with
 |goroutine m1 i=>
  simp only at h;generalize hr:runT p m1 i=y at h;obtain⟨s,ops⟩:=y;simp only at h;subst h;exact iB hm (fI hr)
 |machine s ops=>
  simp only at h;subst h;exact hm
theorem kz {p:eA}:∀{n:Nat} {m m' :hU},runN p n m= .next m' →m.gs.size≤m'.gs.size
 |0,m,m',h=>by cases h;exact iA _
 |n+1,m,m',h=>by
  simp only[runN]at h
  cases hs:step p m with
  |next m1=>rw[hs]at h;exact iB (fy hs) (kz h)
  |ended o w=>rw[hs]at h;cases h
