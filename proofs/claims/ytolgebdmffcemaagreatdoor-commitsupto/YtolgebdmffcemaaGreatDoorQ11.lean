import Derived.Test.YtolgebdmffcemaaGreatDoorQ05
import Derived.Test.YtolgebdmffcemaaGreatDoorProg
import Derived.Test.YtolgebdmffcemaaGreatDoorQ10
set_option linter.all false
set_option maxHeartbeats 20000000
set_option maxRecDepth 1000000
namespace Go.Proofs.YtolgebdmffcemaaGreatDoor
open Go
theorem Xi {P:Program}:∀(n:Nat) (a:Addr) (a0:ByteArray),z8 P Any (Extern.Bytes.loadBytes a n a0)
 |0,a,a0=>trivial
 |n+1,a,a0=>by
  unfold Extern.Bytes.loadBytes;refine z8.bind0 (yn _ _) (fun v=> ?_);split
  ·exact Xi n _ _
  ·exact Zy _
theorem ZF {P:Program}(v:Value):z8 P Any (Extern.Bytes.bytesOf v):=by
 unfold Extern.Bytes.bytesOf;repeat' (first
  |exact trivial
  |with_reducible assumption
  |(first|with_reducible exact mild_pure _|with_reducible exact Zy _|with_reducible exact zy _|with_reducible exact mild_goPanic _|with_reducible exact mild_throw _|with_reducible exact mild_fatal _|with_reducible exact yn _ _|with_reducible exact ZN _ _ _|with_reducible exact yb _|with_reducible exact mild_shape _|with_reducible exact mild_freeze _ _|with_reducible exact yd _|with_reducible exact mild_getObj _|with_reducible exact mild_setObj _ _|with_reducible exact Z8 _|with_reducible exact zn|with_reducible exact zV|with_reducible exact Xi _ _ _)
  |with_reducible refine z8.bind0 ?_ (fun _=> ?_)
  |with_reducible refine z8.map0 ?_
  |with_reducible refine z8.ite (fun _=> ?_) (fun _=> ?_)
  |split
  |dsimp only)
theorem Qw {P:Program}(v:Value):z8 P Any (Extern.Bytes.asByte v):=by
 unfold Extern.Bytes.asByte;repeat' (first
  |exact trivial
  |with_reducible assumption
  |(first|with_reducible exact mild_pure _|with_reducible exact Zy _|with_reducible exact zy _|with_reducible exact mild_goPanic _|with_reducible exact mild_throw _|with_reducible exact mild_fatal _|with_reducible exact yn _ _|with_reducible exact ZN _ _ _|with_reducible exact yb _|with_reducible exact mild_shape _|with_reducible exact mild_freeze _ _|with_reducible exact yd _|with_reducible exact mild_getObj _|with_reducible exact mild_setObj _ _|with_reducible exact Z8 _|with_reducible exact zn|with_reducible exact zV)
  |with_reducible refine z8.bind0 ?_ (fun _=> ?_)
  |with_reducible refine z8.map0 ?_
  |with_reducible refine z8.ite (fun _=> ?_) (fun _=> ?_)
  |split
  |dsimp only)
theorem JK {P:Program}(args:Array Value):z8 P Any (Extern.AbiNoEscape.same args):=by
 unfold Extern.AbiNoEscape.same;obtain⟨l⟩:=args;rcases l with _|⟨a,_|⟨b,l⟩⟩
 all_goals
  exact trivial
theorem kY {P:Program}(args:Array Value):z8 P Any (Extern.BytealgCompare.compare args):=by
 unfold Extern.BytealgCompare.compare;obtain⟨l⟩:=args;rcases l with _|⟨a,_|⟨b,_|⟨c,l⟩⟩⟩
 ·exact trivial
 ·exact trivial
 ·exact z8.bind0 (ZF _) fun _=>z8.bind0 (ZF _) fun _=>trivial
 ·exact trivial
theorem jV {P:Program}(args:Array Value):z8 P Any (Extern.BytealgCount.count args):=by
 unfold Extern.BytealgCount.count;obtain⟨l⟩:=args;rcases l with _|⟨a,_|⟨b,_|⟨c,l⟩⟩⟩
 ·exact trivial
 ·exact trivial
 ·exact z8.bind0 (ZF _) fun _=>z8.bind0 (Qw _) fun _=>trivial
 ·exact trivial
theorem Vg {P:Program}(args:Array Value):z8 P Any (Extern.BytealgIndexByte.indexByte args):=by
 unfold Extern.BytealgIndexByte.indexByte;obtain⟨l⟩:=args;rcases l with _|⟨a,_|⟨b,_|⟨c,l⟩⟩⟩
 ·exact trivial
 ·exact trivial
 ·refine z8.bind0 (ZF _) fun x=>z8.bind0 (Qw _) fun y=> ?_
  split<;>exact trivial
 ·exact trivial
theorem KE {P:Program}:z8 P Any (Extern.BytealgIndex.maxLen):=by
 unfold Extern.BytealgIndex.maxLen;repeat' (first
  |exact trivial
  |with_reducible assumption
  |(first|with_reducible exact mild_pure _|with_reducible exact Zy _|with_reducible exact zy _|with_reducible exact mild_goPanic _|with_reducible exact mild_throw _|with_reducible exact mild_fatal _|with_reducible exact yn _ _|with_reducible exact ZN _ _ _|with_reducible exact yb _|with_reducible exact mild_shape _|with_reducible exact mild_freeze _ _|with_reducible exact yd _|with_reducible exact mild_getObj _|with_reducible exact mild_setObj _ _|with_reducible exact Z8 _|with_reducible exact zn|with_reducible exact zV|with_reducible exact yL _|with_reducible exact ki _)
  |with_reducible refine z8.bind0 ?_ (fun _=> ?_)
  |with_reducible refine z8.map0 ?_
  |with_reducible refine z8.ite (fun _=> ?_) (fun _=> ?_)
  |split
  |dsimp only)
theorem jU {P:Program}(args:Array Value):z8 P Any (Extern.BytealgIndex.index args):=by
 unfold Extern.BytealgIndex.index;obtain⟨l⟩:=args;rcases l with _|⟨a,_|⟨b,_|⟨c,l⟩⟩⟩
 ·exact trivial
 ·exact trivial
 ·refine z8.bind0 (ZF _) fun x=>z8.bind0 (ZF _) fun y=>z8.bind0 KE fun z=> ?_
  have a0:z8 P Any (if x.size≥2^32-15 then(do
    unsupported (Unsupported.noEntry "extern/internal/bytealg.Index: a haystack of 2^32 - 15 bytes or more")
    match List.find? (fun i=>x.extract i (i+y.size)==y) (List.range (x.size+1-y.size))with
     |some i=>pure (goInt ↑i)
     |none=>pure (goInt (-1)):Sem Value)else match List.find? (fun i=>x.extract i (i+y.size)==y) (List.range (x.size+1-y.size))with
     |some i=>pure (goInt ↑i)
     |none=>pure (goInt (-1))):=by
   refine z8.ite (fun _=>z8.bind0 (zy _) fun _=> ?_) (fun _=> ?_)<;>split<;>exact trivial
  exact z8.ite (fun _=>z8.bind0 (zy _) fun _=>a0) (fun _=>a0)
 ·exact trivial
theorem vF {P:Program}(ps rs:Array TypeId)(args:Array Value):z8 P Any (Extern.BytealgMakeNoZero.makeNoZero ps rs args):=by
 unfold Extern.BytealgMakeNoZero.makeNoZero;obtain⟨l⟩:=args;rcases l with _|⟨a,_|⟨b,l⟩⟩
 ·cases rs[0]? <;>exact trivial
 ·cases a with
  |int k n=>
   cases k with
   |i64=>
    cases rs[0]? with
    |none=>exact trivial
    |some t=>
     refine z8.bind0 (zo _) fun d=> ?_
     cases d with
     |slice a0=>
      have a1:z8 P Any (do
        let cap←choose (Question.appendCap n.toNat 0 a0)
        askRoom cap
        let bytes←choose (Question.extern "internal/bytealg.MakeNoZero.bytes" 0)
        let a←newRow a0 (Extern.BytealgMakeNoZero.digits cap bytes #[])
        pure (.slice (some a) n.toNat cap):Sem Value):=
       z8.bind0 (Z8 _) fun _=>z8.bind0 (vJ _) fun _=>z8.bind0 (Z8 _) fun _=>z8.bind0 (Yv _ _) fun _=>trivial
      exact z8.ite (fun _=>z8.bind0 (zF _) fun _=>a1) (fun _=>a1)
     |_=>exact trivial
   |_=>cases rs[0]? <;>exact trivial
  |_=>cases rs[0]? <;>exact trivial
 ·cases rs[0]? <;>cases a<;>first|exact trivial|(rename_i k _ _;cases k<;>exact trivial)|(rename_i k _;cases k<;>exact trivial)
theorem YL {P:Program}(ps rs:Array TypeId)(args:Array Value):z8 P Any (Extern.SlicesOverlaps.overlaps ps rs args):=by
 unfold Extern.SlicesOverlaps.overlaps;obtain⟨l⟩:=args;rcases l with _|⟨a,_|⟨b,_|⟨c,l⟩⟩⟩
 ·cases ps[0]? <;>exact trivial
 ·cases ps[0]? <;>cases a<;>exact trivial
 ·cases a with
  |slice a la ca=>
   cases b with
   |slice b lb cb=>
    cases ps[0]? with
    |none=>exact trivial
    |some t=>
     refine z8.bind0 (zo _) fun d=> ?_
     cases d with
     |slice a0=>
      refine z8.bind0 (Zf _) fun size=> ?_
      cases a with
      |none=>exact trivial
      |some a=>
       cases b with
       |none=>exact trivial
       |some b=>
        repeat' (first
         |exact trivial
         |(first|with_reducible exact mild_pure _|with_reducible exact Zy _|with_reducible exact zy _|with_reducible exact mild_goPanic _|with_reducible exact Z8 _|with_reducible exact yd _|with_reducible exact VN _|with_reducible exact Qz _ _)
         |with_reducible refine z8.bind0 ?_ (fun _=> ?_)
         |with_reducible refine z8.ite (fun _=> ?_) (fun _=> ?_)
         |split
         |dsimp only)
     |_=>exact trivial
   |_=>cases ps[0]? <;>exact trivial
  |_=>cases ps[0]? <;>exact trivial
 ·cases ps[0]? <;>cases a<;>first|exact trivial|(cases b<;>exact trivial)
theorem Ui {P:Program}(o:Option String)(f:String→String):z8 P Any (match o with|some a0=>Extern.RuntimeError.text (f a0)|none=>stuck "boundsError: no such code"):=by cases o<;>exact trivial
theorem QP {P:Program}(args:Array Value):z8 P Any (Extern.RuntimeError.boundsError args):=by
 unfold Extern.RuntimeError.boundsError;obtain⟨l⟩:=args;rcases l with _|⟨a,_|⟨b,l⟩⟩
 ·exact trivial
 ·cases a with
  |agg xs=>
   obtain⟨l⟩:=xs;rcases l with _|⟨a1,_|⟨a2,_|⟨a3,_|⟨a4,_|⟨a5,l⟩⟩⟩⟩⟩
   ·exact trivial
   ·cases a1<;>exact trivial
   ·cases a1<;>first|exact trivial|(cases a2<;>exact trivial)
   ·cases a1<;>first|exact trivial|(cases a2<;>first|exact trivial|(cases a3<;>exact trivial))
   ·cases a1<;>first|exact trivial|(cases a2<;>first|exact trivial|(cases a3<;>first|exact trivial|(cases a4<;>first|exact trivial|(rename_i k x k1 y sg k2 a0;exact Ui _ (fun a6=> "runtime error: " ++(a6.replace "%x" (toString (if sg=true then x else IntKind.u64.wrap x))).replace "%y" (toString y))))))
   ·cases a1<;>first|exact trivial|(cases a2<;>first|exact trivial|(cases a3<;>first|exact trivial|(cases a4<;>exact trivial)))
  |_=>exact trivial
 ·cases a with
  |agg xs=>
   obtain⟨l⟩:=xs;rcases l with _|⟨a1,_|⟨a2,_|⟨a3,_|⟨a4,_|⟨a5,l⟩⟩⟩⟩⟩
   ·exact trivial
   ·cases a1<;>exact trivial
   ·cases a1<;>first|exact trivial|(cases a2<;>exact trivial)
   ·cases a1<;>first|exact trivial|(cases a2<;>first|exact trivial|(cases a3<;>exact trivial))
   all_goals
    cases a1<;>first|exact trivial|(cases a2<;>first|exact trivial|(cases a3<;>first|exact trivial|(cases a4<;>exact trivial)))
  |_=>exact trivial
theorem Xj {P:Program}(v:Value):z8 P Any (Extern.RuntimeError.described v):=by
 unfold Extern.RuntimeError.described;repeat' (first
  |exact trivial
  |with_reducible assumption
  |(first|with_reducible exact mild_pure _|with_reducible exact Zy _|with_reducible exact zy _|with_reducible exact mild_goPanic _|with_reducible exact mild_throw _|with_reducible exact mild_fatal _|with_reducible exact yn _ _|with_reducible exact ZN _ _ _|with_reducible exact yb _|with_reducible exact mild_shape _|with_reducible exact mild_freeze _ _|with_reducible exact yd _|with_reducible exact mild_getObj _|with_reducible exact mild_setObj _ _|with_reducible exact Z8 _|with_reducible exact zn|with_reducible exact zV|with_reducible exact XX _|with_reducible exact Z4 _)
  |with_reducible refine z8.bind0 ?_ (fun _=> ?_)
  |with_reducible refine z8.map0 ?_
  |with_reducible refine z8.ite (fun _=> ?_) (fun _=> ?_)
  |split
  |dsimp only)
theorem Vf {P:Program}(i:TypeInfo):z8 P Any (Extern.RuntimeError.pkgpathOf i):=by
 unfold Extern.RuntimeError.pkgpathOf;repeat' (first
  |exact trivial
  |with_reducible assumption
  |(first|with_reducible exact mild_pure _|with_reducible exact Zy _|with_reducible exact zy _|with_reducible exact mild_goPanic _|with_reducible exact mild_throw _|with_reducible exact mild_fatal _|with_reducible exact yn _ _|with_reducible exact ZN _ _ _|with_reducible exact yb _|with_reducible exact mild_shape _|with_reducible exact mild_freeze _ _|with_reducible exact yd _|with_reducible exact mild_getObj _|with_reducible exact mild_setObj _ _|with_reducible exact Z8 _|with_reducible exact zn|with_reducible exact zV|with_reducible exact Z4 _)
  |with_reducible refine z8.bind0 ?_ (fun _=> ?_)
  |with_reducible refine z8.map0 ?_
  |with_reducible refine z8.ite (fun _=> ?_) (fun _=> ?_)
  |split
  |dsimp only)
theorem xJ {P:Program}(args:Array Value):z8 P Any (Extern.RuntimeError.typeAssertionError args):=by
 unfold Extern.RuntimeError.typeAssertionError;repeat' (first
  |exact trivial
  |with_reducible assumption
  |(first|with_reducible exact mild_pure _|with_reducible exact Zy _|with_reducible exact zy _|with_reducible exact mild_goPanic _|with_reducible exact mild_throw _|with_reducible exact mild_fatal _|with_reducible exact yn _ _|with_reducible exact ZN _ _ _|with_reducible exact yb _|with_reducible exact mild_shape _|with_reducible exact mild_freeze _ _|with_reducible exact yd _|with_reducible exact mild_getObj _|with_reducible exact mild_setObj _ _|with_reducible exact Z8 _|with_reducible exact zn|with_reducible exact zV|with_reducible exact Yw _|with_reducible exact Xj _|with_reducible exact zF _|with_reducible exact Yn _|with_reducible exact Vf _)
  |with_reducible refine z8.bind0 ?_ (fun _=> ?_)
  |with_reducible refine z8.map0 ?_
  |with_reducible refine z8.ite (fun _=> ?_) (fun _=> ?_)
  |split
  |dsimp only)
theorem vE {P:Program}(args:Array Value):z8 P Any (Extern.RuntimeError.unhashableTypeError args):=by
 unfold Extern.RuntimeError.unhashableTypeError;obtain⟨l⟩:=args;rcases l with _|⟨a,_|⟨b,l⟩⟩
 ·exact trivial
 ·cases a with
  |agg xs=>
   obtain⟨l⟩:=xs;rcases l with _|⟨a1,_|⟨a2,l⟩⟩
   ·exact trivial
   ·refine z8.bind0 (Xj _) fun x=> ?_
    cases x
    ·exact zF _
    ·exact trivial
   ·exact trivial
  |_=>exact trivial
 ·cases a with
  |agg xs=>
   obtain⟨l⟩:=xs;rcases l with _|⟨a1,_|⟨a2,l⟩⟩<;>exact trivial
  |_=>exact trivial
theorem yu {fn:Func}(h1:Extern.findNext fn=none)(h2:Extern.find fn=none){P:Program}:Extern.findNext fn=none∧∀e,Extern.find fn=some e→∀args,z8 P Any (e args):=⟨h1,fun e he=>by rw[h2]at he;cases he⟩
theorem Z6 {fn:Func}(h1:Extern.findNext fn=none){e0:Array Value→Sem Value}(h2:Extern.find fn=some e0){P:Program}(h:∀args,z8 P Any (e0 args)):Extern.findNext fn=none∧∀e,Extern.find fn=some e→∀args,z8 P Any (e args):=⟨h1,fun e he=>by rw[h2]at he;cases he;exact h⟩
theorem Gu:(List.range Tryz.prog.funcs.size).all (fun i=>((Tryz.prog.funcs[i]?).map fun f=>f.body.isSome).getD true||[0,1,134,189,196,200,206,262,265,285,288,304,305,306,307,308,309,310,311,312,313,314,315,316,317,318,319,320,321,322,323,324,325,326,327,328,329,330,331,332].contains i)=true:=by as_aux_lemma=>kernel_rfl
theorem OY:Tryz.prog.funcs.toList.all (fun f=> !(f.name== "runtime.NumGoroutine"))=true:=by as_aux_lemma=>kernel_rfl
theorem zC {g fn:Func}{f:Nat}(h:Tryz.prog.funcs[f]? =some g)(k:Extern.findNext g=none∧∀e,Extern.find g=some e→∀args,z8 Tryz.prog Any (e args))(hf:Tryz.prog.funcs[f]? =some fn):Extern.findNext fn=none∧∀e,Extern.find fn=some e→∀args,z8 Tryz.prog Any (e args):=by
 obtain rfl:=Option.some.inj (h.symm.trans hf);exact k
theorem gF (f:Nat)(fn:Func)(hf:Tryz.prog.funcs[f]? =some fn)(hb:fn.body.isNone=true):Extern.findNext fn=none∧∀e,Extern.find fn=some e→∀args,z8 Tryz.prog Any (e args):=by
 have h:=List.all_eq_true.1 Gu f (List.mem_range.2 (Array.getElem?_eq_some_iff.1 hf).1);rw[hf]at h;have hs:fn.body.isSome=false:=by cases a0:fn.body<;>simp_all
 simp only[Option.map_some,Option.getD_some,hs,Bool.false_or,List.contains_eq_mem,decide_eq_true_eq,List.mem_cons,List.not_mem_nil,or_false]at h;rcases h with rfl|rfl|rfl|rfl|rfl|rfl|rfl|rfl|rfl|rfl|rfl|rfl|rfl|rfl|rfl|rfl|rfl|rfl|rfl|rfl|rfl|rfl|rfl|rfl|rfl|rfl|rfl|rfl|rfl|rfl|rfl|rfl|rfl|rfl|rfl|rfl|rfl|rfl|rfl|rfl
 ·exact zC Tryz.func0 (yu (by as_aux_lemma=>kernel_rfl) (by as_aux_lemma=>kernel_rfl)) hf
 ·exact zC Tryz.func1 (yu (by as_aux_lemma=>kernel_rfl) (by as_aux_lemma=>kernel_rfl)) hf
 ·exact zC Tryz.func134 (Z6 (by as_aux_lemma=>kernel_rfl) (e0:=(Extern.SlicesOverlaps.overlaps Tryz.f134.params Tryz.f134.resultTypes)) (by kernel_rfl) (YL _ _)) hf
 ·exact zC Tryz.func189 (Z6 (by as_aux_lemma=>kernel_rfl) (e0:=Extern.AbiNoEscape.same) (by kernel_rfl) (JK)) hf
 ·exact zC Tryz.func196 (Z6 (by as_aux_lemma=>kernel_rfl) (e0:=(Extern.SlicesOverlaps.overlaps Tryz.f196.params Tryz.f196.resultTypes)) (by kernel_rfl) (YL _ _)) hf
 ·exact zC Tryz.func200 (Z6 (by as_aux_lemma=>kernel_rfl) (e0:=(Extern.SlicesOverlaps.overlaps Tryz.f200.params Tryz.f200.resultTypes)) (by kernel_rfl) (YL _ _)) hf
 ·exact zC Tryz.func206 (Z6 (by as_aux_lemma=>kernel_rfl) (e0:=Extern.BytealgCompare.compare) (by kernel_rfl) (kY)) hf
 ·exact zC Tryz.func262 (Z6 (by as_aux_lemma=>kernel_rfl) (e0:=(Extern.BytealgMakeNoZero.makeNoZero Tryz.f262.params Tryz.f262.resultTypes)) (by kernel_rfl) (vF _ _)) hf
 ·exact zC Tryz.func265 (Z6 (by as_aux_lemma=>kernel_rfl) (e0:=Extern.BytealgCount.count) (by kernel_rfl) (jV)) hf
 ·exact zC Tryz.func285 (Z6 (by as_aux_lemma=>kernel_rfl) (e0:=Extern.BytealgIndex.index) (by kernel_rfl) (jU)) hf
 ·exact zC Tryz.func288 (Z6 (by as_aux_lemma=>kernel_rfl) (e0:=Extern.BytealgIndexByte.indexByte) (by kernel_rfl) (Vg)) hf
 ·exact zC Tryz.func304 (Z6 (by as_aux_lemma=>kernel_rfl) (e0:=Extern.RuntimeError.boundsError) (by kernel_rfl) (QP)) hf
 ·exact zC Tryz.func305 (Z6 (by as_aux_lemma=>kernel_rfl) (e0:=Extern.RuntimeError.nothing) (by kernel_rfl) (fun _=>trivial)) hf
 ·exact zC Tryz.func306 (Z6 (by as_aux_lemma=>kernel_rfl) (e0:=(fun args=>do pure (.string ("runtime error: ".toUTF8++(←asString (args.getD 0 (.tuple #[]))))))) (by kernel_rfl) (fun _=>z8.bind0 (Yn _) fun _=>trivial)) hf
 ·exact zC Tryz.func307 (Z6 (by as_aux_lemma=>kernel_rfl) (e0:=Extern.RuntimeError.nothing) (by kernel_rfl) (fun _=>trivial)) hf
 ·exact zC Tryz.func308 (Z6 (by as_aux_lemma=>kernel_rfl) (e0:=(fun args=>do pure (.string (←asString (args.getD 0 (.tuple #[])))))) (by kernel_rfl) (fun _=>z8.bind0 (Yn _) fun _=>trivial)) hf
 ·exact zC Tryz.func309 (Z6 (by as_aux_lemma=>kernel_rfl) (e0:=Extern.RuntimeError.nothing) (by kernel_rfl) (fun _=>trivial)) hf
 ·exact zC Tryz.func310 (Z6 (by as_aux_lemma=>kernel_rfl) (e0:=(fun args=>do pure (.string ("runtime error: ".toUTF8++(←asString ((←asAgg (args.getD 0 (.tuple #[]))).getD 0 (.tuple #[]))))))) (by kernel_rfl) (fun _=>z8.bind0 (K1 _) fun _=>z8.bind0 (Yn _) fun _=>trivial)) hf
 ·exact zC Tryz.func311 (Z6 (by as_aux_lemma=>kernel_rfl) (e0:=Extern.RuntimeError.nothing) (by kernel_rfl) (fun _=>trivial)) hf
 ·exact zC Tryz.func312 (Z6 (by as_aux_lemma=>kernel_rfl) (e0:=Extern.RuntimeError.typeAssertionError) (by kernel_rfl) (xJ)) hf
 ·exact zC Tryz.func313 (Z6 (by as_aux_lemma=>kernel_rfl) (e0:=Extern.RuntimeError.nothing) (by kernel_rfl) (fun _=>trivial)) hf
 ·exact zC Tryz.func314 (Z6 (by as_aux_lemma=>kernel_rfl) (e0:=(fun _=>Extern.RuntimeError.text "runtime error: panic called with nil argument")) (by kernel_rfl) (fun _=>trivial)) hf
 ·exact zC Tryz.func315 (Z6 (by as_aux_lemma=>kernel_rfl) (e0:=Extern.RuntimeError.nothing) (by kernel_rfl) (fun _=>trivial)) hf
 ·exact zC Tryz.func316 (yu (by as_aux_lemma=>kernel_rfl) (by as_aux_lemma=>kernel_rfl)) hf
 ·exact zC Tryz.func317 (Z6 (by as_aux_lemma=>kernel_rfl) (e0:=Extern.RuntimeError.unhashableTypeError) (by kernel_rfl) (vE)) hf
 ·exact zC Tryz.func318 (Z6 (by as_aux_lemma=>kernel_rfl) (e0:=Extern.RuntimeError.nothing) (by kernel_rfl) (fun _=>trivial)) hf
 ·exact zC Tryz.func319 (yu (by as_aux_lemma=>kernel_rfl) (by as_aux_lemma=>kernel_rfl)) hf
 ·exact zC Tryz.func320 (yu (by as_aux_lemma=>kernel_rfl) (by as_aux_lemma=>kernel_rfl)) hf
 ·exact zC Tryz.func321 (yu (by as_aux_lemma=>kernel_rfl) (by as_aux_lemma=>kernel_rfl)) hf
 ·exact zC Tryz.func322 (yu (by as_aux_lemma=>kernel_rfl) (by as_aux_lemma=>kernel_rfl)) hf
 ·exact zC Tryz.func323 (Z6 (by as_aux_lemma=>kernel_rfl) (e0:=(fun args=>do pure (strVal (Extern.Rtype.kindName (←asInt (args.getD 0 (.tuple #[]))).toNat)))) (by kernel_rfl) (fun _=>z8.bind0 (yL _) fun _=>trivial)) hf
 ·exact zC Tryz.func324 (yu (by as_aux_lemma=>kernel_rfl) (by as_aux_lemma=>kernel_rfl)) hf
 ·exact zC Tryz.func325 (yu (by as_aux_lemma=>kernel_rfl) (by as_aux_lemma=>kernel_rfl)) hf
 ·exact zC Tryz.func326 (yu (by as_aux_lemma=>kernel_rfl) (by as_aux_lemma=>kernel_rfl)) hf
 ·exact zC Tryz.func327 (yu (by as_aux_lemma=>kernel_rfl) (by as_aux_lemma=>kernel_rfl)) hf
 ·exact zC Tryz.func328 (yu (by as_aux_lemma=>kernel_rfl) (by as_aux_lemma=>kernel_rfl)) hf
 ·exact zC Tryz.func329 (yu (by as_aux_lemma=>kernel_rfl) (by as_aux_lemma=>kernel_rfl)) hf
 ·exact zC Tryz.func330 (yu (by as_aux_lemma=>kernel_rfl) (by as_aux_lemma=>kernel_rfl)) hf
 ·exact zC Tryz.func331 (yu (by as_aux_lemma=>kernel_rfl) (by as_aux_lemma=>kernel_rfl)) hf
 ·exact zC Tryz.func332 (yu (by as_aux_lemma=>kernel_rfl) (by as_aux_lemma=>kernel_rfl)) hf
theorem jb:Z0 Tryz.prog:=⟨fun f fn hf=>by
 have h:=List.all_eq_true.1 OY fn (Array.mem_toList_iff.2 (Array.mem_of_getElem? hf));simpa using h,fun f fn hf hb=>(gF f fn hf hb).1,fun f fn e hf hb he=>(gF f fn hf hb).2 e he⟩
