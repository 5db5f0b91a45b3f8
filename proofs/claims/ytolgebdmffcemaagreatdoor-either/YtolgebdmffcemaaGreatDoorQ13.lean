import Derived.Test.YtolgebdmffcemaaGreatDoorQ05
import Derived.Test.YtolgebdmffcemaaGreatDoorProg
import Derived.Test.YtolgebdmffcemaaGreatDoorQ12
set_option linter.all false
set_option maxHeartbeats 20000000
set_option maxRecDepth 1000000
open List renaming find?→rR,range→lQ,all_eq_true→mO
open Go.Proofs.Tryz renaming prog→rJ
namespace Go.Proofs.YtolgebdmffcemaaGreatDoor
open Go
theorem XB {P:Program}:∀(n:Nat) (a:Addr) (a0:ByteArray),z4 P Any (Extern.Bytes.loadBytes a n a0)
 |0,a,a0=>trivial
 |n+1,a,a0=>by
  unfold Extern.Bytes.loadBytes;refine z4.bind0 (yD _ _) (fun v=> ?_);split
  ·exact XB n _ _
  ·exact ZJ _
theorem ZP {P:Program}(v:Value):z4 P Any (Extern.Bytes.bytesOf v):=by
 unfold Extern.Bytes.bytesOf;repeat' (first
  |exact trivial
  |with_reducible assumption
  |(first|with_reducible exact mild_pure _|with_reducible exact ZJ _|with_reducible exact zr _|with_reducible exact mild_goPanic _|with_reducible exact mild_throw _|with_reducible exact mild_fatal _|with_reducible exact yD _ _|with_reducible exact ZY _ _ _|with_reducible exact yq _|with_reducible exact mild_shape _|with_reducible exact mild_freeze _ _|with_reducible exact yt _|with_reducible exact mild_getObj _|with_reducible exact mild_setObj _ _|with_reducible exact Zi _|with_reducible exact zi|with_reducible exact zR|with_reducible exact XB _ _ _)
  |with_reducible refine z4.bind0 ?_ (fun _=> ?_)
  |with_reducible refine z4.map0 ?_
  |with_reducible refine z4.ite (fun _=> ?_) (fun _=> ?_)
  |split
  |dsimp only)
theorem QZ {P:Program}(v:Value):z4 P Any (Extern.Bytes.asByte v):=by
 unfold Extern.Bytes.asByte;repeat' (first
  |exact trivial
  |with_reducible assumption
  |(first|with_reducible exact mild_pure _|with_reducible exact ZJ _|with_reducible exact zr _|with_reducible exact mild_goPanic _|with_reducible exact mild_throw _|with_reducible exact mild_fatal _|with_reducible exact yD _ _|with_reducible exact ZY _ _ _|with_reducible exact yq _|with_reducible exact mild_shape _|with_reducible exact mild_freeze _ _|with_reducible exact yt _|with_reducible exact mild_getObj _|with_reducible exact mild_setObj _ _|with_reducible exact Zi _|with_reducible exact zi|with_reducible exact zR)
  |with_reducible refine z4.bind0 ?_ (fun _=> ?_)
  |with_reducible refine z4.map0 ?_
  |with_reducible refine z4.ite (fun _=> ?_) (fun _=> ?_)
  |split
  |dsimp only)
theorem oS {P:Program}(args:Array Value):z4 P Any (Extern.AbiNoEscape.same args):=by
 unfold Extern.AbiNoEscape.same;obtain⟨l⟩:=args;rcases l with _|⟨a,_|⟨b,l⟩⟩
 all_goals
  exact trivial
theorem jG {P:Program}(args:Array Value):z4 P Any (Extern.BytealgCompare.compare args):=by
 unfold Extern.BytealgCompare.compare;obtain⟨l⟩:=args;rcases l with _|⟨a,_|⟨b,_|⟨c,l⟩⟩⟩
 ·exact trivial
 ·exact trivial
 ·exact z4.bind0 (ZP _) fun _=>z4.bind0 (ZP _) fun _=>trivial
 ·exact trivial
theorem Uf {P:Program}(args:Array Value):z4 P Any (Extern.BytealgCount.count args):=by
 unfold Extern.BytealgCount.count;obtain⟨l⟩:=args;rcases l with _|⟨a,_|⟨b,_|⟨c,l⟩⟩⟩
 ·exact trivial
 ·exact trivial
 ·exact z4.bind0 (ZP _) fun _=>z4.bind0 (QZ _) fun _=>trivial
 ·exact trivial
theorem kC {P:Program}(args:Array Value):z4 P Any (Extern.BytealgIndexByte.indexByte args):=by
 unfold Extern.BytealgIndexByte.indexByte;obtain⟨l⟩:=args;rcases l with _|⟨a,_|⟨b,_|⟨c,l⟩⟩⟩
 ·exact trivial
 ·exact trivial
 ·refine z4.bind0 (ZP _) fun x=>z4.bind0 (QZ _) fun y=> ?_
  split<;>exact trivial
 ·exact trivial
theorem Js {P:Program}:z4 P Any (Extern.BytealgIndex.maxLen):=by
 unfold Extern.BytealgIndex.maxLen;repeat' (first
  |exact trivial
  |with_reducible assumption
  |(first|with_reducible exact mild_pure _|with_reducible exact ZJ _|with_reducible exact zr _|with_reducible exact mild_goPanic _|with_reducible exact mild_throw _|with_reducible exact mild_fatal _|with_reducible exact yD _ _|with_reducible exact ZY _ _ _|with_reducible exact yq _|with_reducible exact mild_shape _|with_reducible exact mild_freeze _ _|with_reducible exact yt _|with_reducible exact mild_getObj _|with_reducible exact mild_setObj _ _|with_reducible exact Zi _|with_reducible exact zi|with_reducible exact zR|with_reducible exact yX _|with_reducible exact KE _)
  |with_reducible refine z4.bind0 ?_ (fun _=> ?_)
  |with_reducible refine z4.map0 ?_
  |with_reducible refine z4.ite (fun _=> ?_) (fun _=> ?_)
  |split
  |dsimp only)
theorem Ue {P:Program}(args:Array Value):z4 P Any (Extern.BytealgIndex.index args):=by
 unfold Extern.BytealgIndex.index;obtain⟨l⟩:=args;rcases l with _|⟨a,_|⟨b,_|⟨c,l⟩⟩⟩
 ·exact trivial
 ·exact trivial
 ·refine z4.bind0 (ZP _) fun x=>z4.bind0 (ZP _) fun y=>z4.bind0 Js fun z=> ?_
  have key:z4 P Any (if x.size≥2^32-15 then(do
    unsupported (Unsupported.noEntry "extern/internal/bytealg.Index: a haystack of 2^32 - 15 bytes or more")
    match rR (fun i=>x.extract i (i+y.size)==y) (lQ (x.size+1-y.size))with
     |some i=>pure (goInt ↑i)
     |none=>pure (goInt (-1)):Sem Value)else match rR (fun i=>x.extract i (i+y.size)==y) (lQ (x.size+1-y.size))with
     |some i=>pure (goInt ↑i)
     |none=>pure (goInt (-1))):=by
   refine z4.ite (fun _=>z4.bind0 (zr _) fun _=> ?_) (fun _=> ?_)<;>split<;>exact trivial
  exact z4.ite (fun _=>z4.bind0 (zr _) fun _=>key) (fun _=>key)
 ·exact trivial
theorem Vs {P:Program}(ps rs:Array TypeId)(args:Array Value):z4 P Any (Extern.BytealgMakeNoZero.makeNoZero ps rs args):=by
 unfold Extern.BytealgMakeNoZero.makeNoZero;obtain⟨l⟩:=args;rcases l with _|⟨a,_|⟨b,l⟩⟩
 ·cases rs[0]? <;>exact trivial
 ·cases a with
  |int k n=>
   cases k with
   |i64=>
    cases rs[0]? with
    |none=>exact trivial
    |some t=>
     refine z4.bind0 (zj _) fun d=> ?_
     cases d with
     |slice a0=>
      have key:z4 P Any (do
        let cap←choose (Question.appendCap n.toNat 0 a0)
        askRoom cap
        let bytes←choose (Question.extern "internal/bytealg.MakeNoZero.bytes" 0)
        let a←newRow a0 (Extern.BytealgMakeNoZero.digits cap bytes #[])
        pure (.slice (some a) n.toNat cap):Sem Value):=
       z4.bind0 (Zi _) fun _=>z4.bind0 (Vw _) fun _=>z4.bind0 (Zi _) fun _=>z4.bind0 (YS _ _) fun _=>trivial
      exact z4.ite (fun _=>z4.bind0 (zz _) fun _=>key) (fun _=>key)
     |_=>exact trivial
   |_=>cases rs[0]? <;>exact trivial
  |_=>cases rs[0]? <;>exact trivial
 ·cases rs[0]? <;>cases a<;>first|exact trivial|(rename_i k _ _;cases k<;>exact trivial)|(rename_i k _;cases k<;>exact trivial)
theorem x7 {P:Program}(ps rs:Array TypeId)(args:Array Value):z4 P Any (Extern.SlicesOverlaps.overlaps ps rs args):=by
 unfold Extern.SlicesOverlaps.overlaps;obtain⟨l⟩:=args;rcases l with _|⟨a,_|⟨b,_|⟨c,l⟩⟩⟩
 ·cases ps[0]? <;>exact trivial
 ·cases ps[0]? <;>cases a<;>exact trivial
 ·cases a with
  |slice a la ca=>
   cases b with
   |slice b lb cb=>
    cases ps[0]? with
    |none=>exact trivial
    |some t=>
     refine z4.bind0 (zj _) fun d=> ?_
     cases d with
     |slice a0=>
      refine z4.bind0 (Zo _) fun size=> ?_
      cases a with
      |none=>exact trivial
      |some a=>
       cases b with
       |none=>exact trivial
       |some b=>
        repeat' (first
         |exact trivial
         |(first|with_reducible exact mild_pure _|with_reducible exact ZJ _|with_reducible exact zr _|with_reducible exact mild_goPanic _|with_reducible exact Zi _|with_reducible exact yt _|with_reducible exact Ki _|with_reducible exact v8 _ _)
         |with_reducible refine z4.bind0 ?_ (fun _=> ?_)
         |with_reducible refine z4.ite (fun _=> ?_) (fun _=> ?_)
         |split
         |dsimp only)
     |_=>exact trivial
   |_=>cases ps[0]? <;>exact trivial
  |_=>cases ps[0]? <;>exact trivial
 ·cases ps[0]? <;>cases a<;>first|exact trivial|(cases b<;>exact trivial)
theorem gM {P:Program}(o:Option String)(f:String→String):z4 P Any (match o with|some a0=>Extern.RuntimeError.text (f a0)|none=>stuck "boundsError: no such code"):=by cases o<;>exact trivial
theorem vy {P:Program}(args:Array Value):z4 P Any (Extern.RuntimeError.boundsError args):=by
 unfold Extern.RuntimeError.boundsError;obtain⟨l⟩:=args;rcases l with _|⟨a,_|⟨b,l⟩⟩
 ·exact trivial
 ·cases a with
  |agg xs=>
   obtain⟨l⟩:=xs;rcases l with _|⟨a1,_|⟨a2,_|⟨a3,_|⟨a4,_|⟨a5,l⟩⟩⟩⟩⟩
   ·exact trivial
   ·cases a1<;>exact trivial
   ·cases a1<;>first|exact trivial|(cases a2<;>exact trivial)
   ·cases a1<;>first|exact trivial|(cases a2<;>first|exact trivial|(cases a3<;>exact trivial))
   ·cases a1<;>first|exact trivial|(cases a2<;>first|exact trivial|(cases a3<;>first|exact trivial|(cases a4<;>first|exact trivial|(rename_i k x k1 y sg k2 a0;exact gM _ (fun a6=> "runtime error: " ++(a6.replace "%x" (toString (if sg=true then x else IntKind.u64.wrap x))).replace "%y" (toString y))))))
   ·cases a1<;>first|exact trivial|(cases a2<;>first|exact trivial|(cases a3<;>first|exact trivial|(cases a4<;>exact trivial)))
  |_=>exact trivial
 ·cases a with
  |agg xs=>
   obtain⟨l⟩:=xs;rcases l with _|⟨a1,_|⟨a2,_|⟨a3,_|⟨a4,_|⟨a5,l⟩⟩⟩⟩⟩
   ·exact trivial
   ·cases a1<;>exact trivial
   ·cases a1<;>first|exact trivial|(cases a2<;>exact trivial)
   ·cases a1<;>first|exact trivial|(cases a2<;>first|exact trivial|(cases a3<;>exact trivial))
   all_goals
    cases a1<;>first|exact trivial|(cases a2<;>first|exact trivial|(cases a3<;>first|exact trivial|(cases a4<;>exact trivial)))
  |_=>exact trivial
theorem XC {P:Program}(v:Value):z4 P Any (Extern.RuntimeError.described v):=by
 unfold Extern.RuntimeError.described;repeat' (first
  |exact trivial
  |with_reducible assumption
  |(first|with_reducible exact mild_pure _|with_reducible exact ZJ _|with_reducible exact zr _|with_reducible exact mild_goPanic _|with_reducible exact mild_throw _|with_reducible exact mild_fatal _|with_reducible exact yD _ _|with_reducible exact ZY _ _ _|with_reducible exact yq _|with_reducible exact mild_shape _|with_reducible exact mild_freeze _ _|with_reducible exact yt _|with_reducible exact mild_getObj _|with_reducible exact mild_setObj _ _|with_reducible exact Zi _|with_reducible exact zi|with_reducible exact zR|with_reducible exact qk _|with_reducible exact Za _)
  |with_reducible refine z4.bind0 ?_ (fun _=> ?_)
  |with_reducible refine z4.map0 ?_
  |with_reducible refine z4.ite (fun _=> ?_) (fun _=> ?_)
  |split
  |dsimp only)
theorem kB {P:Program}(i:TypeInfo):z4 P Any (Extern.RuntimeError.pkgpathOf i):=by
 unfold Extern.RuntimeError.pkgpathOf;repeat' (first
  |exact trivial
  |with_reducible assumption
  |(first|with_reducible exact mild_pure _|with_reducible exact ZJ _|with_reducible exact zr _|with_reducible exact mild_goPanic _|with_reducible exact mild_throw _|with_reducible exact mild_fatal _|with_reducible exact yD _ _|with_reducible exact ZY _ _ _|with_reducible exact yq _|with_reducible exact mild_shape _|with_reducible exact mild_freeze _ _|with_reducible exact yt _|with_reducible exact mild_getObj _|with_reducible exact mild_setObj _ _|with_reducible exact Zi _|with_reducible exact zi|with_reducible exact zR|with_reducible exact Za _)
  |with_reducible refine z4.bind0 ?_ (fun _=> ?_)
  |with_reducible refine z4.map0 ?_
  |with_reducible refine z4.ite (fun _=> ?_) (fun _=> ?_)
  |split
  |dsimp only)
theorem xZ {P:Program}(args:Array Value):z4 P Any (Extern.RuntimeError.typeAssertionError args):=by
 unfold Extern.RuntimeError.typeAssertionError;repeat' (first
  |exact trivial
  |with_reducible assumption
  |(first|with_reducible exact mild_pure _|with_reducible exact ZJ _|with_reducible exact zr _|with_reducible exact mild_goPanic _|with_reducible exact mild_throw _|with_reducible exact mild_fatal _|with_reducible exact yD _ _|with_reducible exact ZY _ _ _|with_reducible exact yq _|with_reducible exact mild_shape _|with_reducible exact mild_freeze _ _|with_reducible exact yt _|with_reducible exact mild_getObj _|with_reducible exact mild_setObj _ _|with_reducible exact Zi _|with_reducible exact zi|with_reducible exact zR|with_reducible exact YT _|with_reducible exact XC _|with_reducible exact zz _|with_reducible exact YK _|with_reducible exact kB _)
  |with_reducible refine z4.bind0 ?_ (fun _=> ?_)
  |with_reducible refine z4.map0 ?_
  |with_reducible refine z4.ite (fun _=> ?_) (fun _=> ?_)
  |split
  |dsimp only)
theorem Vr {P:Program}(args:Array Value):z4 P Any (Extern.RuntimeError.unhashableTypeError args):=by
 unfold Extern.RuntimeError.unhashableTypeError;obtain⟨l⟩:=args;rcases l with _|⟨a,_|⟨b,l⟩⟩
 ·exact trivial
 ·cases a with
  |agg xs=>
   obtain⟨l⟩:=xs;rcases l with _|⟨a1,_|⟨a2,l⟩⟩
   ·exact trivial
   ·refine z4.bind0 (XC _) fun x=> ?_
    cases x
    ·exact zz _
    ·exact trivial
   ·exact trivial
  |_=>exact trivial
 ·cases a with
  |agg xs=>
   obtain⟨l⟩:=xs;rcases l with _|⟨a1,_|⟨a2,l⟩⟩<;>exact trivial
  |_=>exact trivial
theorem yJ {fn:Func}(h1:Extern.findNext fn=none)(h2:Extern.find fn=none){P:Program}:Extern.findNext fn=none∧∀e,Extern.find fn=some e→∀args,z4 P Any (e args):=⟨h1,fun e he=>by rw[h2]at he;cases he⟩
theorem Ze {fn:Func}(h1:Extern.findNext fn=none){e0:Array Value→Sem Value}(h2:Extern.find fn=some e0){P:Program}(h:∀args,z4 P Any (e0 args)):Extern.findNext fn=none∧∀e,Extern.find fn=some e→∀args,z4 P Any (e args):=⟨h1,fun e he=>by rw[h2]at he;cases he;exact h⟩
theorem bg:(lQ Tryz.prog.funcs.size).all (fun i=>((Tryz.prog.funcs[i]?).map fun f=>f.body.isSome).getD true||[0,1,134,189,196,200,206,262,265,285,288,304,305,306,307,308,309,310,311,312,313,314,315,316,317,318,319,320,321,322,323,324,325,326,327,328,329,330,331,332].contains i)=true:=by as_aux_lemma=>kernel_rfl
theorem ce:Tryz.prog.funcs.toList.all (fun f=> !(f.name== "runtime.NumGoroutine"))=true:=by as_aux_lemma=>kernel_rfl
theorem zx {g fn:Func}{f:Nat}(h:Tryz.prog.funcs[f]? =some g)(k:Extern.findNext g=none∧∀e,Extern.find g=some e→∀args,z4 rJ Any (e args))(hf:Tryz.prog.funcs[f]? =some fn):Extern.findNext fn=none∧∀e,Extern.find fn=some e→∀args,z4 rJ Any (e args):=by
 obtain rfl:=Option.some.inj (h.symm.trans hf);exact k
theorem cU (f:Nat)(fn:Func)(hf:Tryz.prog.funcs[f]? =some fn)(hb:fn.body.isNone=true):Extern.findNext fn=none∧∀e,Extern.find fn=some e→∀args,z4 rJ Any (e args):=by
 have h:=mO.1 bg f (List.mem_range.2 (Array.getElem?_eq_some_iff.1 hf).1);rw[hf]at h;have hs:fn.body.isSome=false:=by cases a0:fn.body<;>simp_all
 simp only[Option.map_some,Option.getD_some,hs,Bool.false_or,List.contains_eq_mem,decide_eq_true_eq,List.mem_cons,List.not_mem_nil,or_false]at h;rcases h with rfl|rfl|rfl|rfl|rfl|rfl|rfl|rfl|rfl|rfl|rfl|rfl|rfl|rfl|rfl|rfl|rfl|rfl|rfl|rfl|rfl|rfl|rfl|rfl|rfl|rfl|rfl|rfl|rfl|rfl|rfl|rfl|rfl|rfl|rfl|rfl|rfl|rfl|rfl|rfl
 ·exact zx Tryz.func0 (yJ (by as_aux_lemma=>kernel_rfl) (by as_aux_lemma=>kernel_rfl)) hf
 ·exact zx Tryz.func1 (yJ (by as_aux_lemma=>kernel_rfl) (by as_aux_lemma=>kernel_rfl)) hf
 ·exact zx Tryz.func134 (Ze (by as_aux_lemma=>kernel_rfl) (e0:=(Extern.SlicesOverlaps.overlaps Tryz.f134.params Tryz.f134.resultTypes)) (by kernel_rfl) (x7 _ _)) hf
 ·exact zx Tryz.func189 (Ze (by as_aux_lemma=>kernel_rfl) (e0:=Extern.AbiNoEscape.same) (by kernel_rfl) (oS)) hf
 ·exact zx Tryz.func196 (Ze (by as_aux_lemma=>kernel_rfl) (e0:=(Extern.SlicesOverlaps.overlaps Tryz.f196.params Tryz.f196.resultTypes)) (by kernel_rfl) (x7 _ _)) hf
 ·exact zx Tryz.func200 (Ze (by as_aux_lemma=>kernel_rfl) (e0:=(Extern.SlicesOverlaps.overlaps Tryz.f200.params Tryz.f200.resultTypes)) (by kernel_rfl) (x7 _ _)) hf
 ·exact zx Tryz.func206 (Ze (by as_aux_lemma=>kernel_rfl) (e0:=Extern.BytealgCompare.compare) (by kernel_rfl) (jG)) hf
 ·exact zx Tryz.func262 (Ze (by as_aux_lemma=>kernel_rfl) (e0:=(Extern.BytealgMakeNoZero.makeNoZero Tryz.f262.params Tryz.f262.resultTypes)) (by kernel_rfl) (Vs _ _)) hf
 ·exact zx Tryz.func265 (Ze (by as_aux_lemma=>kernel_rfl) (e0:=Extern.BytealgCount.count) (by kernel_rfl) (Uf)) hf
 ·exact zx Tryz.func285 (Ze (by as_aux_lemma=>kernel_rfl) (e0:=Extern.BytealgIndex.index) (by kernel_rfl) (Ue)) hf
 ·exact zx Tryz.func288 (Ze (by as_aux_lemma=>kernel_rfl) (e0:=Extern.BytealgIndexByte.indexByte) (by kernel_rfl) (kC)) hf
 ·exact zx Tryz.func304 (Ze (by as_aux_lemma=>kernel_rfl) (e0:=Extern.RuntimeError.boundsError) (by kernel_rfl) (vy)) hf
 ·exact zx Tryz.func305 (Ze (by as_aux_lemma=>kernel_rfl) (e0:=Extern.RuntimeError.nothing) (by kernel_rfl) (fun _=>trivial)) hf
 ·exact zx Tryz.func306 (Ze (by as_aux_lemma=>kernel_rfl) (e0:=(fun args=>do pure (.string ("runtime error: ".toUTF8++(←asString (args.getD 0 (.tuple #[]))))))) (by kernel_rfl) (fun _=>z4.bind0 (YK _) fun _=>trivial)) hf
 ·exact zx Tryz.func307 (Ze (by as_aux_lemma=>kernel_rfl) (e0:=Extern.RuntimeError.nothing) (by kernel_rfl) (fun _=>trivial)) hf
 ·exact zx Tryz.func308 (Ze (by as_aux_lemma=>kernel_rfl) (e0:=(fun args=>do pure (.string (←asString (args.getD 0 (.tuple #[])))))) (by kernel_rfl) (fun _=>z4.bind0 (YK _) fun _=>trivial)) hf
 ·exact zx Tryz.func309 (Ze (by as_aux_lemma=>kernel_rfl) (e0:=Extern.RuntimeError.nothing) (by kernel_rfl) (fun _=>trivial)) hf
 ·exact zx Tryz.func310 (Ze (by as_aux_lemma=>kernel_rfl) (e0:=(fun args=>do pure (.string ("runtime error: ".toUTF8++(←asString ((←asAgg (args.getD 0 (.tuple #[]))).getD 0 (.tuple #[]))))))) (by kernel_rfl) (fun _=>z4.bind0 (jK _) fun _=>z4.bind0 (YK _) fun _=>trivial)) hf
 ·exact zx Tryz.func311 (Ze (by as_aux_lemma=>kernel_rfl) (e0:=Extern.RuntimeError.nothing) (by kernel_rfl) (fun _=>trivial)) hf
 ·exact zx Tryz.func312 (Ze (by as_aux_lemma=>kernel_rfl) (e0:=Extern.RuntimeError.typeAssertionError) (by kernel_rfl) (xZ)) hf
 ·exact zx Tryz.func313 (Ze (by as_aux_lemma=>kernel_rfl) (e0:=Extern.RuntimeError.nothing) (by kernel_rfl) (fun _=>trivial)) hf
 ·exact zx Tryz.func314 (Ze (by as_aux_lemma=>kernel_rfl) (e0:=(fun _=>Extern.RuntimeError.text "runtime error: panic called with nil argument")) (by kernel_rfl) (fun _=>trivial)) hf
 ·exact zx Tryz.func315 (Ze (by as_aux_lemma=>kernel_rfl) (e0:=Extern.RuntimeError.nothing) (by kernel_rfl) (fun _=>trivial)) hf
 ·exact zx Tryz.func316 (yJ (by as_aux_lemma=>kernel_rfl) (by as_aux_lemma=>kernel_rfl)) hf
 ·exact zx Tryz.func317 (Ze (by as_aux_lemma=>kernel_rfl) (e0:=Extern.RuntimeError.unhashableTypeError) (by kernel_rfl) (Vr)) hf
 ·exact zx Tryz.func318 (Ze (by as_aux_lemma=>kernel_rfl) (e0:=Extern.RuntimeError.nothing) (by kernel_rfl) (fun _=>trivial)) hf
 ·exact zx Tryz.func319 (yJ (by as_aux_lemma=>kernel_rfl) (by as_aux_lemma=>kernel_rfl)) hf
 ·exact zx Tryz.func320 (yJ (by as_aux_lemma=>kernel_rfl) (by as_aux_lemma=>kernel_rfl)) hf
 ·exact zx Tryz.func321 (yJ (by as_aux_lemma=>kernel_rfl) (by as_aux_lemma=>kernel_rfl)) hf
 ·exact zx Tryz.func322 (yJ (by as_aux_lemma=>kernel_rfl) (by as_aux_lemma=>kernel_rfl)) hf
 ·exact zx Tryz.func323 (Ze (by as_aux_lemma=>kernel_rfl) (e0:=(fun args=>do pure (strVal (Extern.Rtype.kindName (←asInt (args.getD 0 (.tuple #[]))).toNat)))) (by kernel_rfl) (fun _=>z4.bind0 (yX _) fun _=>trivial)) hf
 ·exact zx Tryz.func324 (yJ (by as_aux_lemma=>kernel_rfl) (by as_aux_lemma=>kernel_rfl)) hf
 ·exact zx Tryz.func325 (yJ (by as_aux_lemma=>kernel_rfl) (by as_aux_lemma=>kernel_rfl)) hf
 ·exact zx Tryz.func326 (yJ (by as_aux_lemma=>kernel_rfl) (by as_aux_lemma=>kernel_rfl)) hf
 ·exact zx Tryz.func327 (yJ (by as_aux_lemma=>kernel_rfl) (by as_aux_lemma=>kernel_rfl)) hf
 ·exact zx Tryz.func328 (yJ (by as_aux_lemma=>kernel_rfl) (by as_aux_lemma=>kernel_rfl)) hf
 ·exact zx Tryz.func329 (yJ (by as_aux_lemma=>kernel_rfl) (by as_aux_lemma=>kernel_rfl)) hf
 ·exact zx Tryz.func330 (yJ (by as_aux_lemma=>kernel_rfl) (by as_aux_lemma=>kernel_rfl)) hf
 ·exact zx Tryz.func331 (yJ (by as_aux_lemma=>kernel_rfl) (by as_aux_lemma=>kernel_rfl)) hf
 ·exact zx Tryz.func332 (yJ (by as_aux_lemma=>kernel_rfl) (by as_aux_lemma=>kernel_rfl)) hf
theorem xT:zH rJ:=⟨fun f fn hf=>by
 have h:=mO.1 ce fn (Array.mem_toList_iff.2 (Array.mem_of_getElem? hf));simpa using h,fun f fn hf hb=>(cU f fn hf hb).1,fun f fn e hf hb he=>(cU f fn hf hb).2 e he⟩
