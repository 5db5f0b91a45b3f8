import Derived.Test.YtolgebdmffcemaaGreatDoorQ03
import Derived.Test.YtolgebdmffcemaaGreatDoorProg
import Derived.Test.YtolgebdmffcemaaGreatDoorQ07
import Derived.Deep.QuietTactic
import Derived.BigQuiet
import Derived.WalkSmall
import Derived.Lib.ItoaMem
import Derived.Deep.RegionWith
import Derived.Deep.RegionHeld3
set_option linter.all false
set_option maxHeartbeats 20000000
set_option maxRecDepth 1000000
open Go renaming Program→eA,Value→eB,World→eX
open List renaming find?→tC,range→mO,all_eq_true→nZ,mem_cons→iT,find?_eq_none→pW,any_eq_false→pM,take_append_drop→nS,length_cons→nM,length_set→tE,mem_append→iZ,mem_singleton→iV,length_append→nL,replicate→tF,length_take→pZ,length_drop→rA,map_take→tJ,map_drop→tK,map_set→tL,getElem_map→tM
open Go.Proofs.Tryz renaming prog→sU
open Array renaming getElem?_eq_some_iff→lE
open ByteArray renaming mk→tD
open Go.Lib renaming decDigits→rG,byteCells→tG
open UInt8 renaming ofNat→nK
open Go.RowKit renaming Below→tH
open Go.World renaming frozen?_setCell→tI
namespace Go.Proofs.YtolgebdmffcemaaGreatDoor
open Go Go.RowKit
theorem XH {P:eA}:∀(n:Nat) (a:Addr) (a0:ByteArray),z6 P Any (Extern.Bytes.loadBytes a n a0)
 |0,a,a0=>trivial
 |n+1,a,a0=>by
  unfold Extern.Bytes.loadBytes;refine z6.bind0 (yJ _ _) (fun v=> ?_);split
  ·exact XH n _ _
  ·exact ZM _
theorem ZR {P:eA}(v:eB):z6 P Any (Extern.Bytes.bytesOf v):=by
 unfold Extern.Bytes.bytesOf;repeat' (first
  |exact trivial
  |with_reducible assumption
  |(first|with_reducible exact mild_pure _|with_reducible exact ZM _|with_reducible exact zu _|with_reducible exact mild_goPanic _|with_reducible exact mild_throw _|with_reducible exact mild_fatal _|with_reducible exact yJ _ _|with_reducible exact Z_ _ _ _|with_reducible exact yz _|with_reducible exact mild_shape _|with_reducible exact mild_freeze _ _|with_reducible exact yA _|with_reducible exact mild_getObj _|with_reducible exact mild_setObj _ _|with_reducible exact Zi _|with_reducible exact zj|with_reducible exact zS|with_reducible exact XH _ _ _)
  |with_reducible refine z6.bind0 ?_ (fun _=> ?_)
  |with_reducible refine z6.map0 ?_
  |with_reducible refine z6.ite (fun _=> ?_) (fun _=> ?_)
  |split
  |dsimp only)
theorem Q_ {P:eA}(v:eB):z6 P Any (Extern.Bytes.asByte v):=by
 unfold Extern.Bytes.asByte;repeat' (first
  |exact trivial
  |with_reducible assumption
  |(first|with_reducible exact mild_pure _|with_reducible exact ZM _|with_reducible exact zu _|with_reducible exact mild_goPanic _|with_reducible exact mild_throw _|with_reducible exact mild_fatal _|with_reducible exact yJ _ _|with_reducible exact Z_ _ _ _|with_reducible exact yz _|with_reducible exact mild_shape _|with_reducible exact mild_freeze _ _|with_reducible exact yA _|with_reducible exact mild_getObj _|with_reducible exact mild_setObj _ _|with_reducible exact Zi _|with_reducible exact zj|with_reducible exact zS)
  |with_reducible refine z6.bind0 ?_ (fun _=> ?_)
  |with_reducible refine z6.map0 ?_
  |with_reducible refine z6.ite (fun _=> ?_) (fun _=> ?_)
  |split
  |dsimp only)
theorem O7 {P:eA}(args:Array eB):z6 P Any (Extern.AbiNoEscape.same args):=by
 unfold Extern.AbiNoEscape.same;obtain⟨l⟩:=args;rcases l with _|⟨a,_|⟨b,l⟩⟩
 all_goals
  exact trivial
theorem jJ {P:eA}(args:Array eB):z6 P Any (Extern.BytealgCompare.compare args):=by
 unfold Extern.BytealgCompare.compare;obtain⟨l⟩:=args;rcases l with _|⟨a,_|⟨b,_|⟨c,l⟩⟩⟩
 ·exact trivial
 ·exact trivial
 ·exact z6.bind0 (ZR _) fun _=>z6.bind0 (ZR _) fun _=>trivial
 ·exact trivial
theorem Uu {P:eA}(args:Array eB):z6 P Any (Extern.BytealgCount.count args):=by
 unfold Extern.BytealgCount.count;obtain⟨l⟩:=args;rcases l with _|⟨a,_|⟨b,_|⟨c,l⟩⟩⟩
 ·exact trivial
 ·exact trivial
 ·exact z6.bind0 (ZR _) fun _=>z6.bind0 (Q_ _) fun _=>trivial
 ·exact trivial
theorem kF {P:eA}(args:Array eB):z6 P Any (Extern.BytealgIndexByte.indexByte args):=by
 unfold Extern.BytealgIndexByte.indexByte;obtain⟨l⟩:=args;rcases l with _|⟨a,_|⟨b,_|⟨c,l⟩⟩⟩
 ·exact trivial
 ·exact trivial
 ·refine z6.bind0 (ZR _) fun x=>z6.bind0 (Q_ _) fun y=> ?_
  split<;>exact trivial
 ·exact trivial
theorem Jr {P:eA}:z6 P Any (Extern.BytealgIndex.maxLen):=by
 unfold Extern.BytealgIndex.maxLen;repeat' (first
  |exact trivial
  |with_reducible assumption
  |(first|with_reducible exact mild_pure _|with_reducible exact ZM _|with_reducible exact zu _|with_reducible exact mild_goPanic _|with_reducible exact mild_throw _|with_reducible exact mild_fatal _|with_reducible exact yJ _ _|with_reducible exact Z_ _ _ _|with_reducible exact yz _|with_reducible exact mild_shape _|with_reducible exact mild_freeze _ _|with_reducible exact yA _|with_reducible exact mild_getObj _|with_reducible exact mild_setObj _ _|with_reducible exact Zi _|with_reducible exact zj|with_reducible exact zS|with_reducible exact Y5 _|with_reducible exact KJ _)
  |with_reducible refine z6.bind0 ?_ (fun _=> ?_)
  |with_reducible refine z6.map0 ?_
  |with_reducible refine z6.ite (fun _=> ?_) (fun _=> ?_)
  |split
  |dsimp only)
theorem Ut {P:eA}(args:Array eB):z6 P Any (Extern.BytealgIndex.index args):=by
 unfold Extern.BytealgIndex.index;obtain⟨l⟩:=args;rcases l with _|⟨a,_|⟨b,_|⟨c,l⟩⟩⟩
 ·exact trivial
 ·exact trivial
 ·refine z6.bind0 (ZR _) fun x=>z6.bind0 (ZR _) fun y=>z6.bind0 Jr fun z=> ?_
  have key:z6 P Any (if x.size≥2^32-15 then(do
    unsupported (Unsupported.noEntry "extern/internal/bytealg.Index: a haystack of 2^32 - 15 bytes or more")
    match tC (fun i=>x.extract i (i+y.size)==y) (mO (x.size+1-y.size))with
     |some i=>pure (goInt ↑i)
     |none=>pure (goInt (-1)):Sem eB)else match tC (fun i=>x.extract i (i+y.size)==y) (mO (x.size+1-y.size))with
     |some i=>pure (goInt ↑i)
     |none=>pure (goInt (-1))):=by
   refine z6.ite (fun _=>z6.bind0 (zu _) fun _=> ?_) (fun _=> ?_)<;>split<;>exact trivial
  exact z6.ite (fun _=>z6.bind0 (zu _) fun _=>key) (fun _=>key)
 ·exact trivial
theorem Vz {P:eA}(ps rs:Array TypeId)(args:Array eB):z6 P Any (Extern.BytealgMakeNoZero.makeNoZero ps rs args):=by
 unfold Extern.BytealgMakeNoZero.makeNoZero;obtain⟨l⟩:=args;rcases l with _|⟨a,_|⟨b,l⟩⟩
 ·cases rs[0]? <;>exact trivial
 ·cases a with
  |int k n=>
   cases k with
   |i64=>
    cases rs[0]? with
    |none=>exact trivial
    |some t=>
     refine z6.bind0 (zk _) fun d=> ?_
     cases d with
     |slice a0=>
      have key:z6 P Any (do
        let cap←choose (Question.appendCap n.toNat 0 a0)
        askRoom cap
        let bytes←choose (Question.extern "internal/bytealg.MakeNoZero.bytes" 0)
        let a←newRow a0 (Extern.BytealgMakeNoZero.digits cap bytes #[])
        pure (.slice (some a) n.toNat cap):Sem eB):=
       z6.bind0 (Zi _) fun _=>z6.bind0 (VE _) fun _=>z6.bind0 (Zi _) fun _=>z6.bind0 (YZ _ _) fun _=>trivial
      exact z6.ite (fun _=>z6.bind0 (zz _) fun _=>key) (fun _=>key)
     |_=>exact trivial
   |_=>cases rs[0]? <;>exact trivial
  |_=>cases rs[0]? <;>exact trivial
 ·cases rs[0]? <;>cases a<;>first|exact trivial|(rename_i k _ _;cases k<;>exact trivial)|(rename_i k _;cases k<;>exact trivial)
theorem xg {P:eA}(ps rs:Array TypeId)(args:Array eB):z6 P Any (Extern.SlicesOverlaps.overlaps ps rs args):=by
 unfold Extern.SlicesOverlaps.overlaps;obtain⟨l⟩:=args;rcases l with _|⟨a,_|⟨b,_|⟨c,l⟩⟩⟩
 ·cases ps[0]? <;>exact trivial
 ·cases ps[0]? <;>cases a<;>exact trivial
 ·cases a with
  |slice a la ca=>
   cases b with
   |slice b lb cb=>
    cases ps[0]? with
    |none=>exact trivial
    |some t=>
     refine z6.bind0 (zk _) fun d=> ?_
     cases d with
     |slice a0=>
      refine z6.bind0 (Zo _) fun size=> ?_
      cases a with
      |none=>exact trivial
      |some a=>
       cases b with
       |none=>exact trivial
       |some b=>
        repeat' (first
         |exact trivial
         |(first|with_reducible exact mild_pure _|with_reducible exact ZM _|with_reducible exact zu _|with_reducible exact mild_goPanic _|with_reducible exact Zi _|with_reducible exact yA _|with_reducible exact Kl _|with_reducible exact vd _ _)
         |with_reducible refine z6.bind0 ?_ (fun _=> ?_)
         |with_reducible refine z6.ite (fun _=> ?_) (fun _=> ?_)
         |split
         |dsimp only)
     |_=>exact trivial
   |_=>cases ps[0]? <;>exact trivial
  |_=>cases ps[0]? <;>exact trivial
 ·cases ps[0]? <;>cases a<;>first|exact trivial|(cases b<;>exact trivial)
theorem G6 {P:eA}(o:Option String)(f:String→String):z6 P Any (match o with|some a0=>Extern.RuntimeError.text (f a0)|none=>stuck "boundsError: no such code"):=by cases o<;>exact trivial
theorem vA {P:eA}(args:Array eB):z6 P Any (Extern.RuntimeError.boundsError args):=by
 unfold Extern.RuntimeError.boundsError;obtain⟨l⟩:=args;rcases l with _|⟨a,_|⟨b,l⟩⟩
 ·exact trivial
 ·cases a with
  |agg xs=>
   obtain⟨l⟩:=xs;rcases l with _|⟨a1,_|⟨a2,_|⟨a3,_|⟨a4,_|⟨a5,l⟩⟩⟩⟩⟩
   ·exact trivial
   ·cases a1<;>exact trivial
   ·cases a1<;>first|exact trivial|(cases a2<;>exact trivial)
   ·cases a1<;>first|exact trivial|(cases a2<;>first|exact trivial|(cases a3<;>exact trivial))
   ·cases a1<;>first|exact trivial|(cases a2<;>first|exact trivial|(cases a3<;>first|exact trivial|(cases a4<;>first|exact trivial|(rename_i k x k1 y sg k2 a0;exact G6 _ (fun a6=> "runtime error: " ++(a6.replace "%x" (toString (if sg=true then x else IntKind.u64.wrap x))).replace "%y" (toString y))))))
   ·cases a1<;>first|exact trivial|(cases a2<;>first|exact trivial|(cases a3<;>first|exact trivial|(cases a4<;>exact trivial)))
  |_=>exact trivial
 ·cases a with
  |agg xs=>
   obtain⟨l⟩:=xs;rcases l with _|⟨a1,_|⟨a2,_|⟨a3,_|⟨a4,_|⟨a5,l⟩⟩⟩⟩⟩
   ·exact trivial
   ·cases a1<;>exact trivial
   ·cases a1<;>first|exact trivial|(cases a2<;>exact trivial)
   ·cases a1<;>first|exact trivial|(cases a2<;>first|exact trivial|(cases a3<;>exact trivial))
   all_goals
    cases a1<;>first|exact trivial|(cases a2<;>first|exact trivial|(cases a3<;>first|exact trivial|(cases a4<;>exact trivial)))
  |_=>exact trivial
theorem XI {P:eA}(v:eB):z6 P Any (Extern.RuntimeError.described v):=by
 unfold Extern.RuntimeError.described;repeat' (first
  |exact trivial
  |with_reducible assumption
  |(first|with_reducible exact mild_pure _|with_reducible exact ZM _|with_reducible exact zu _|with_reducible exact mild_goPanic _|with_reducible exact mild_throw _|with_reducible exact mild_fatal _|with_reducible exact yJ _ _|with_reducible exact Z_ _ _ _|with_reducible exact yz _|with_reducible exact mild_shape _|with_reducible exact mild_freeze _ _|with_reducible exact yA _|with_reducible exact mild_getObj _|with_reducible exact mild_setObj _ _|with_reducible exact Zi _|with_reducible exact zj|with_reducible exact zS|with_reducible exact qp _|with_reducible exact Za _)
  |with_reducible refine z6.bind0 ?_ (fun _=> ?_)
  |with_reducible refine z6.map0 ?_
  |with_reducible refine z6.ite (fun _=> ?_) (fun _=> ?_)
  |split
  |dsimp only)
theorem kE {P:eA}(i:TypeInfo):z6 P Any (Extern.RuntimeError.pkgpathOf i):=by
 unfold Extern.RuntimeError.pkgpathOf;repeat' (first
  |exact trivial
  |with_reducible assumption
  |(first|with_reducible exact mild_pure _|with_reducible exact ZM _|with_reducible exact zu _|with_reducible exact mild_goPanic _|with_reducible exact mild_throw _|with_reducible exact mild_fatal _|with_reducible exact yJ _ _|with_reducible exact Z_ _ _ _|with_reducible exact yz _|with_reducible exact mild_shape _|with_reducible exact mild_freeze _ _|with_reducible exact yA _|with_reducible exact mild_getObj _|with_reducible exact mild_setObj _ _|with_reducible exact Zi _|with_reducible exact zj|with_reducible exact zS|with_reducible exact Za _)
  |with_reducible refine z6.bind0 ?_ (fun _=> ?_)
  |with_reducible refine z6.map0 ?_
  |with_reducible refine z6.ite (fun _=> ?_) (fun _=> ?_)
  |split
  |dsimp only)
theorem Xf {P:eA}(args:Array eB):z6 P Any (Extern.RuntimeError.typeAssertionError args):=by
 unfold Extern.RuntimeError.typeAssertionError;repeat' (first
  |exact trivial
  |with_reducible assumption
  |(first|with_reducible exact mild_pure _|with_reducible exact ZM _|with_reducible exact zu _|with_reducible exact mild_goPanic _|with_reducible exact mild_throw _|with_reducible exact mild_fatal _|with_reducible exact yJ _ _|with_reducible exact Z_ _ _ _|with_reducible exact yz _|with_reducible exact mild_shape _|with_reducible exact mild_freeze _ _|with_reducible exact yA _|with_reducible exact mild_getObj _|with_reducible exact mild_setObj _ _|with_reducible exact Zi _|with_reducible exact zj|with_reducible exact zS|with_reducible exact Y_ _|with_reducible exact XI _|with_reducible exact zz _|with_reducible exact YQ _|with_reducible exact kE _)
  |with_reducible refine z6.bind0 ?_ (fun _=> ?_)
  |with_reducible refine z6.map0 ?_
  |with_reducible refine z6.ite (fun _=> ?_) (fun _=> ?_)
  |split
  |dsimp only)
theorem Vy {P:eA}(args:Array eB):z6 P Any (Extern.RuntimeError.unhashableTypeError args):=by
 unfold Extern.RuntimeError.unhashableTypeError;obtain⟨l⟩:=args;rcases l with _|⟨a,_|⟨b,l⟩⟩
 ·exact trivial
 ·cases a with
  |agg xs=>
   obtain⟨l⟩:=xs;rcases l with _|⟨a1,_|⟨a2,l⟩⟩
   ·exact trivial
   ·refine z6.bind0 (XI _) fun x=> ?_
    cases x
    ·exact zz _
    ·exact trivial
   ·exact trivial
  |_=>exact trivial
 ·cases a with
  |agg xs=>
   obtain⟨l⟩:=xs;rcases l with _|⟨a1,_|⟨a2,l⟩⟩<;>exact trivial
  |_=>exact trivial
theorem yP {fn:Func}(h1:Extern.findNext fn=none)(h2:Extern.find fn=none){P:eA}:Extern.findNext fn=none∧∀e,Extern.find fn=some e→∀args,z6 P Any (e args):=⟨h1,fun e he=>by rw[h2]at he;cases he⟩
theorem Ze {fn:Func}(h1:Extern.findNext fn=none){e0:Array eB→Sem eB}(h2:Extern.find fn=some e0){P:eA}(h:∀args,z6 P Any (e0 args)):Extern.findNext fn=none∧∀e,Extern.find fn=some e→∀args,z6 P Any (e args):=⟨h1,fun e he=>by rw[h2]at he;cases he;exact h⟩
theorem bK:(mO Tryz.prog.funcs.size).all (fun i=>((Tryz.prog.funcs[i]?).map fun f=>f.body.isSome).getD true||[0,1,134,189,196,200,206,262,265,285,288,304,305,306,307,308,309,310,311,312,313,314,315,316,317,318,319,320,321,322,323,324,325,326,327,328,329,330,331,332].contains i)=true:=by as_aux_lemma=>kernel_rfl
theorem cE:Tryz.prog.funcs.toList.all (fun f=> !(f.name== "runtime.NumGoroutine"))=true:=by as_aux_lemma=>kernel_rfl
theorem zy {g fn:Func}{f:Nat}(h:Tryz.prog.funcs[f]? =some g)(k:Extern.findNext g=none∧∀e,Extern.find g=some e→∀args,z6 sU Any (e args))(hf:Tryz.prog.funcs[f]? =some fn):Extern.findNext fn=none∧∀e,Extern.find fn=some e→∀args,z6 sU Any (e args):=by
 obtain rfl:=Option.some.inj (h.symm.trans hf);exact k
theorem Cb (f:Nat)(fn:Func)(hf:Tryz.prog.funcs[f]? =some fn)(hb:fn.body.isNone=true):Extern.findNext fn=none∧∀e,Extern.find fn=some e→∀args,z6 sU Any (e args):=by
 have h:=nZ.1 bK f (List.mem_range.2 (lE.1 hf).1);rw[hf]at h;have hs:fn.body.isSome=false:=by cases a0:fn.body<;>simp_all
 simp only[Option.map_some,Option.getD_some,hs,Bool.false_or,List.contains_eq_mem,decide_eq_true_eq,iT,List.not_mem_nil,or_false]at h;rcases h with rfl|rfl|rfl|rfl|rfl|rfl|rfl|rfl|rfl|rfl|rfl|rfl|rfl|rfl|rfl|rfl|rfl|rfl|rfl|rfl|rfl|rfl|rfl|rfl|rfl|rfl|rfl|rfl|rfl|rfl|rfl|rfl|rfl|rfl|rfl|rfl|rfl|rfl|rfl|rfl
 ·exact zy Tryz.func0 (yP (by as_aux_lemma=>kernel_rfl) (by as_aux_lemma=>kernel_rfl)) hf
 ·exact zy Tryz.func1 (yP (by as_aux_lemma=>kernel_rfl) (by as_aux_lemma=>kernel_rfl)) hf
 ·exact zy Tryz.func134 (Ze (by as_aux_lemma=>kernel_rfl) (e0:=(Extern.SlicesOverlaps.overlaps Tryz.f134.params Tryz.f134.resultTypes)) (by kernel_rfl) (xg _ _)) hf
 ·exact zy Tryz.func189 (Ze (by as_aux_lemma=>kernel_rfl) (e0:=Extern.AbiNoEscape.same) (by kernel_rfl) (O7)) hf
 ·exact zy Tryz.func196 (Ze (by as_aux_lemma=>kernel_rfl) (e0:=(Extern.SlicesOverlaps.overlaps Tryz.f196.params Tryz.f196.resultTypes)) (by kernel_rfl) (xg _ _)) hf
 ·exact zy Tryz.func200 (Ze (by as_aux_lemma=>kernel_rfl) (e0:=(Extern.SlicesOverlaps.overlaps Tryz.f200.params Tryz.f200.resultTypes)) (by kernel_rfl) (xg _ _)) hf
 ·exact zy Tryz.func206 (Ze (by as_aux_lemma=>kernel_rfl) (e0:=Extern.BytealgCompare.compare) (by kernel_rfl) (jJ)) hf
 ·exact zy Tryz.func262 (Ze (by as_aux_lemma=>kernel_rfl) (e0:=(Extern.BytealgMakeNoZero.makeNoZero Tryz.f262.params Tryz.f262.resultTypes)) (by kernel_rfl) (Vz _ _)) hf
 ·exact zy Tryz.func265 (Ze (by as_aux_lemma=>kernel_rfl) (e0:=Extern.BytealgCount.count) (by kernel_rfl) (Uu)) hf
 ·exact zy Tryz.func285 (Ze (by as_aux_lemma=>kernel_rfl) (e0:=Extern.BytealgIndex.index) (by kernel_rfl) (Ut)) hf
 ·exact zy Tryz.func288 (Ze (by as_aux_lemma=>kernel_rfl) (e0:=Extern.BytealgIndexByte.indexByte) (by kernel_rfl) (kF)) hf
 ·exact zy Tryz.func304 (Ze (by as_aux_lemma=>kernel_rfl) (e0:=Extern.RuntimeError.boundsError) (by kernel_rfl) (vA)) hf
 ·exact zy Tryz.func305 (Ze (by as_aux_lemma=>kernel_rfl) (e0:=Extern.RuntimeError.nothing) (by kernel_rfl) (fun _=>trivial)) hf
 ·exact zy Tryz.func306 (Ze (by as_aux_lemma=>kernel_rfl) (e0:=(fun args=>do pure (.string ("runtime error: ".toUTF8++(←asString (args.getD 0 (.tuple #[]))))))) (by kernel_rfl) (fun _=>z6.bind0 (YQ _) fun _=>trivial)) hf
 ·exact zy Tryz.func307 (Ze (by as_aux_lemma=>kernel_rfl) (e0:=Extern.RuntimeError.nothing) (by kernel_rfl) (fun _=>trivial)) hf
 ·exact zy Tryz.func308 (Ze (by as_aux_lemma=>kernel_rfl) (e0:=(fun args=>do pure (.string (←asString (args.getD 0 (.tuple #[])))))) (by kernel_rfl) (fun _=>z6.bind0 (YQ _) fun _=>trivial)) hf
 ·exact zy Tryz.func309 (Ze (by as_aux_lemma=>kernel_rfl) (e0:=Extern.RuntimeError.nothing) (by kernel_rfl) (fun _=>trivial)) hf
 ·exact zy Tryz.func310 (Ze (by as_aux_lemma=>kernel_rfl) (e0:=(fun args=>do pure (.string ("runtime error: ".toUTF8++(←asString ((←asAgg (args.getD 0 (.tuple #[]))).getD 0 (.tuple #[]))))))) (by kernel_rfl) (fun _=>z6.bind0 (jN _) fun _=>z6.bind0 (YQ _) fun _=>trivial)) hf
 ·exact zy Tryz.func311 (Ze (by as_aux_lemma=>kernel_rfl) (e0:=Extern.RuntimeError.nothing) (by kernel_rfl) (fun _=>trivial)) hf
 ·exact zy Tryz.func312 (Ze (by as_aux_lemma=>kernel_rfl) (e0:=Extern.RuntimeError.typeAssertionError) (by kernel_rfl) (Xf)) hf
 ·exact zy Tryz.func313 (Ze (by as_aux_lemma=>kernel_rfl) (e0:=Extern.RuntimeError.nothing) (by kernel_rfl) (fun _=>trivial)) hf
 ·exact zy Tryz.func314 (Ze (by as_aux_lemma=>kernel_rfl) (e0:=(fun _=>Extern.RuntimeError.text "runtime error: panic called with nil argument")) (by kernel_rfl) (fun _=>trivial)) hf
 ·exact zy Tryz.func315 (Ze (by as_aux_lemma=>kernel_rfl) (e0:=Extern.RuntimeError.nothing) (by kernel_rfl) (fun _=>trivial)) hf
 ·exact zy Tryz.func316 (yP (by as_aux_lemma=>kernel_rfl) (by as_aux_lemma=>kernel_rfl)) hf
 ·exact zy Tryz.func317 (Ze (by as_aux_lemma=>kernel_rfl) (e0:=Extern.RuntimeError.unhashableTypeError) (by kernel_rfl) (Vy)) hf
 ·exact zy Tryz.func318 (Ze (by as_aux_lemma=>kernel_rfl) (e0:=Extern.RuntimeError.nothing) (by kernel_rfl) (fun _=>trivial)) hf
 ·exact zy Tryz.func319 (yP (by as_aux_lemma=>kernel_rfl) (by as_aux_lemma=>kernel_rfl)) hf
 ·exact zy Tryz.func320 (yP (by as_aux_lemma=>kernel_rfl) (by as_aux_lemma=>kernel_rfl)) hf
 ·exact zy Tryz.func321 (yP (by as_aux_lemma=>kernel_rfl) (by as_aux_lemma=>kernel_rfl)) hf
 ·exact zy Tryz.func322 (yP (by as_aux_lemma=>kernel_rfl) (by as_aux_lemma=>kernel_rfl)) hf
 ·exact zy Tryz.func323 (Ze (by as_aux_lemma=>kernel_rfl) (e0:=(fun args=>do pure (strVal (Extern.Rtype.kindName (←asInt (args.getD 0 (.tuple #[]))).toNat)))) (by kernel_rfl) (fun _=>z6.bind0 (Y5 _) fun _=>trivial)) hf
 ·exact zy Tryz.func324 (yP (by as_aux_lemma=>kernel_rfl) (by as_aux_lemma=>kernel_rfl)) hf
 ·exact zy Tryz.func325 (yP (by as_aux_lemma=>kernel_rfl) (by as_aux_lemma=>kernel_rfl)) hf
 ·exact zy Tryz.func326 (yP (by as_aux_lemma=>kernel_rfl) (by as_aux_lemma=>kernel_rfl)) hf
 ·exact zy Tryz.func327 (yP (by as_aux_lemma=>kernel_rfl) (by as_aux_lemma=>kernel_rfl)) hf
 ·exact zy Tryz.func328 (yP (by as_aux_lemma=>kernel_rfl) (by as_aux_lemma=>kernel_rfl)) hf
 ·exact zy Tryz.func329 (yP (by as_aux_lemma=>kernel_rfl) (by as_aux_lemma=>kernel_rfl)) hf
 ·exact zy Tryz.func330 (yP (by as_aux_lemma=>kernel_rfl) (by as_aux_lemma=>kernel_rfl)) hf
 ·exact zy Tryz.func331 (yP (by as_aux_lemma=>kernel_rfl) (by as_aux_lemma=>kernel_rfl)) hf
 ·exact zy Tryz.func332 (yP (by as_aux_lemma=>kernel_rfl) (by as_aux_lemma=>kernel_rfl)) hf
theorem xx:zH sU:=⟨fun f fn hf=>by
 have h:=nZ.1 cE fn (Array.mem_toList_iff.2 (Array.mem_of_getElem? hf));simpa using h,fun f fn hf hb=>(Cb f fn hf hb).1,fun f fn e hf hb he=>(Cb f fn hf hb).2 e he⟩
def dW (s:List UInt8)(k q:Nat)(ps:List (List UInt8)):Prop:=q≤k∧(∀c∈(s.drop q).take (k-q),c≠47)∧R.spl s=ps++R.spl (s.drop q)
theorem dM (s:List UInt8)(k:Nat)(_h:k<s.length)(hb:k<({data:=s.toArray}:ByteArray).size):(({data:=s.toArray}:ByteArray)[k]'hb)=s[k]:=by
 show(s.toArray)[k]=_;simp
theorem jI (x y:List UInt8):(tD x.toArray++tD y.toArray)=tD (x++y).toArray:=ByteArray.mk_append_mk x y
theorem OT (m:Nat)(h:9<m):rG m=rG (m/10)++ [nK (48+m % 10)]:=by
 conv=>lhs;unfold rG
 rw[dif_neg (by omega)]
theorem Jc (m:Nat)(h:¬9<m):rG m=[nK (48+m)]:=by
 unfold rG;rw[dif_pos (by omega)]


theorem find_none {t:List R.Leaf}{p:List UInt8}{k:Nat}(h:¬k<t.length)(ha:((t.take k).any fun x=>x.path==p)=false):R.at_ t p=R.none p:=by
 have:=R.any_end t _ k h ha;unfold R.at_;rw[pW.2 (by intro x hx;have:=pM.1 this x hx;simpa using this)];rfl
theorem C8 {t:List R.Leaf}{p:List UInt8}{k:Nat}(h:k<t.length)(ha:((t.take k).any fun x=>x.path==p)=false)(hp:(t[k].path==p)=true):R.at_ t p=t[k]:=by
 unfold R.at_;have e:t.find? (fun x=>x.path==p)=some t[k]:=by
  conv=>lhs;rw[←nS k t,List.find?_append,pW.2 (by intro x hx;have:=pM.1 ha x hx;simpa using this),List.drop_eq_getElem_cons h,List.find?_cons_of_pos (by simpa using hp)]
  rfl
 rw[e];rfl
theorem cG (l:List UInt8)(a:Array UInt8)(h:a.toList=l):({data:=a}:ByteArray)=⟨l.toArray⟩:=by subst h;simp
theorem je (x:R.Leaf)(hg:R.Good x):(R.written x).length≤200000:=by
 obtain⟨_,g1,g2,g3,g4,g5⟩:=hg;have g6:=R.joinI_length _ g5;have a0:=Lib.itoa_length_le x.n (by omega) (by omega);unfold R.written;split
 ·simp only[nM];omega
 ·split<;>simp only[nM]<;>omega


theorem jp (n:Nat):((nK n).toNat:Int)=(n:Int) % 256:=by simp

theorem zN (w:eX)(B i j:Nat)(v:eB)(h:j≠i):(w.setCell ⟨B,i,none⟩ v).cell? ⟨B,j,none⟩=w.cell? ⟨B,j,none⟩:=
 World.cell?_setCell_other (w:=w) (a:=⟨B,i,none⟩) (b:=⟨B,j,none⟩) (v:=v) (fun e=>h (by injection e with _ e _;exact e.symm))
theorem Yh (w:eX)(B i:Nat)(v u:eB)(h:w.cell? ⟨B,i,none⟩=some u):(w.setCell ⟨B,i,none⟩ v).cell? ⟨B,i,none⟩=some v:=
 World.cell?_setCell_same (w:=w) (a:=⟨B,i,none⟩) (v:=v) h
theorem zr {O:Nat→Prop}{w w' :eX}{base:Nat}{e:TypeId}{size:Nat}{v:eB}{n:Nat}{xs:List eB}(h:w.ownsRow base e size v n xs)(hk:zf O w w')(a1:∀g,v.ownBlock=some g→¬O g):w'.ownsRow base e size v n xs:=by
 obtain⟨h1,h2⟩:=h;refine⟨h1,?_⟩;rcases h2 with h2|⟨g,cap,a0,rfl,hg,hh,r⟩
 ·exact .inl h2
 ·exact .inr ⟨g,cap,a0,rfl,hg,by rw[hk.block g (lE.1 hh).1 (a1 g rfl)];exact hh,r⟩
def Df (w w' :eX)(M O:Nat→Prop)(B:Nat)(st' :R.St):Prop:=∃O',RS w' (fun b=>M b∨O' b) O' B st' ∧zf O w w' ∧(∀b,O' b→O b∨w.heap.size≤b)


theorem Xo {w:eX}{base:Nat}{e:TypeId}{size:Nat}{g n cap:Nat}{xs:List eB}(h:w.ownsRow base e size (.slice (some ⟨g,0,none⟩) n cap) n xs)(j:Nat)(hj:j<xs.length)(u:eB):
  (w.setCell ⟨g,j,none⟩ u).ownsRow base e size (.slice (some ⟨g,0,none⟩) n cap) n (xs.set j u):=by
 obtain⟨h1,h2⟩:=h;refine⟨by rw[tE];exact h1,?_⟩;rcases h2 with⟨h2,_⟩|⟨g',a2,a1,hv,hg,hh,hn,a3,hs,ht⟩
 ·cases h2
 ·injection hv with ha _ a0
  injection ha with ha
  injection ha with ha _ _
  subst ha a0;refine .inr ⟨g,cap,a1.setIfInBounds j u,rfl,hg,heap_setCell_same w g j a1 e u hh,hn,a3,by simpa using hs,?_⟩;rw[←ht];have a4:j<n*size:=by omega
  rw[Array.toList_setIfInBounds,List.take_set]
def Ce (l:List UInt8):Nat:=l.foldl (fun a c=>10*a+(c.toNat-48)) 0
theorem uG (l:List UInt8)(c:UInt8):Ce (l++ [c])=10*Ce l+(c.toNat-48):=by simp[Ce,List.foldl_append]
theorem j9 (m:Nat)(h:m<10):(nK (48+m)).toNat=48+m:=by
 rw[UInt8.toNat_ofNat'];omega
theorem ff:∀(n:Nat),(∀c∈rG n,48≤c.toNat∧c.toNat≤57)∧Ce (rG n)=n∧rG n≠ []:=by
 intro n;induction n using Nat.strongRecOn with
 |_ n ih=>
  by_cases h:9<n
  ·obtain⟨h1,h2,h3⟩:=ih (n/10) (by omega)
   rw[OT n h];refine⟨fun c hc=> ?_,?_,by simp⟩
   ·rcases iZ.1 hc with hc|hc
    ·exact h1 c hc
    ·rw[iV.1 hc,j9 _ (by omega)];omega
   ·rw[uG,h2,j9 _ (by omega)];omega
  ·rw[Jc n h]
   refine⟨fun c hc=> ?_,?_,by simp⟩
   ·rw[iV.1 hc,j9 _ (by omega)];omega
   ·rw[show [nK (48+n)]=[]++ [nK (48+n)]from rfl,uG,j9 _ (by omega)];simp[Ce]
theorem UT:∀(k n:Nat),n<10^(k+1)→(rG n).length≤k+1
 |0,n,h=>by rw[Jc n (by omega)];simp
 |k+1,n,h=>by
  by_cases h9:9<n
  ·rw[OT n h9,nL]
   have:=UT k (n/10) (by rw[Nat.pow_succ]at h;omega);simp;omega
  ·rw[Jc n h9];simp
def d9 (ps:List (Nat×Nat)):List eB:=ps.flatMap fun p=> [Value.pointer (some ⟨p.1,0,none⟩),.pointer (some ⟨p.2,0,none⟩)]
structure LWx (w:eX)(M O:Nat→Prop)(Wb:Nat)(av:eB)(ps:List (Nat×Nat))(nv tv uv kv:eB)(names:List (eB×List UInt8))(nums:List (eB×Int))(last:Nat):Prop where
 sub:∀b,O b→M b
 lt:∀b,O b→b<w.heap.size
 own:O Wb
 c0:w.cell? ⟨Wb,0,none⟩=some av
 c1:w.cell? ⟨Wb,1,none⟩=some nv
 c2:w.cell? ⟨Wb,2,none⟩=some tv
 c3:w.cell? ⟨Wb,3,none⟩=some uv
 c4:w.cell? ⟨Wb,4,none⟩=some kv
 c5:w.cell? ⟨Wb,5,none⟩=some (.int .i64 (last:Int))
 fr:∀o,w.frozen? ⟨Wb,o,none⟩=false
 arow:w.ownsRow 0 85 2 av ps.length (d9 ps)
 nrow:w.ownsRow 0 45 1 nv names.length (names.map (·.1))
 trow:w.ownsRow 0 9 1 tv names.length (names.map fun p=>S p.2)
 urow:w.ownsRow 0 39 1 uv nums.length (nums.map (·.1))
 krow:w.ownsRow 0 3 1 kv nums.length (nums.map fun p=> .int .i64 p.2)
 nO:∀g,nv.ownBlock=some g→O g∧g≠Wb
 tO:∀g,tv.ownBlock=some g→O g∧g≠Wb∧nv.ownBlock≠some g
 uO:∀g,uv.ownBlock=some g→O g∧g≠Wb∧nv.ownBlock≠some g∧tv.ownBlock≠some g
 kO:∀g,kv.ownBlock=some g→O g∧g≠Wb∧nv.ownBlock≠some g∧tv.ownBlock≠some g∧uv.ownBlock≠some g
 aO:∀g,av.ownBlock=some g→O g∧g≠Wb∧nv.ownBlock≠some g∧tv.ownBlock≠some g∧uv.ownBlock≠some g∧kv.ownBlock≠some g
 nl:∀p∈names,∃n,Rd w M p.1 n (tF n (S p.2))
 ul:∀p∈nums,∃n,Rd w M p.1 n (tF n (.int .i64 p.2))
abbrev BrP:=R.Br×Nat×eB
def Xe (L:List BrP):List eB:=L.map fun p=>Value.pointer (some ⟨p.2.1,0,none⟩)
def YJ (L:List (R.Cm×eB×eB)):List eB:=L.flatMap fun p=> [p.2.1,p.2.2]
structure ku (w:eX)(M:Nat→Prop)(p:BrP):Prop where
 c0:w.cell? ⟨p.2.1,0,none⟩=some (.string ⟨p.1.name.toArray⟩)
 c1:w.cell? ⟨p.2.1,1,none⟩=some (.int .i64 (p.1.head:Int))
 c2:w.cell? ⟨p.2.1,2,none⟩=some p.2.2
 fr:∀o,w.frozen? ⟨p.2.1,o,none⟩=false
 work:PT w M p.2.2 p.1.work
structure o9 (w:eX)(O:Nat→Prop)(B:Nat)(pk:List UInt8)(bv cv:eB)(LB:List BrP)(pv:eB):Prop where
 c2:w.cell? ⟨B,2,none⟩=some pv
 row:w.ownsRow 0 5 1 pv pk.length (tG pk)
 rowO:∀g,pv.ownBlock=some g→O g∧g≠B∧bv.ownBlock≠some g∧cv.ownBlock≠some g∧∀p∈LB,p.2.1≠g
structure PSx (w:eX)(M O:Nat→Prop)(B:Nat)(st:R.St)(bv cv:eB)(LB:List BrP)(LCm:List (R.Cm×eB×eB)):Prop where
 sub:∀b,O b→M b
 lt:∀b,O b→b<w.heap.size
 own:O B
 c0:w.cell? ⟨B,0,none⟩=some bv
 c1:w.cell? ⟨B,1,none⟩=some cv
 fr:∀o,w.frozen? ⟨B,o,none⟩=false
 brs:LB.map (·.1)=st.brs
 row:w.ownsRow 0 88 1 bv LB.length (Xe LB)
 rowO:∀g,bv.ownBlock=some g→O g∧g≠B
 at_:∀p∈LB,ku w M p
 blk:∀p∈LB,O p.2.1∧p.2.1≠B∧bv.ownBlock≠some p.2.1∧cv.ownBlock≠some p.2.1
 dist:(LB.map (·.2.1)).Nodup
 cms:LCm.map (·.1)=st.cms
 crow:w.ownsRow 0 114 2 cv LCm.length (YJ LCm)
 crowO:∀g,cv.ownBlock=some g→O g∧g≠B∧bv.ownBlock≠some g
 ctree:∀p∈LCm,PT w M p.2.2 p.1.tree
 cpar:∀p∈LCm,Rd w M p.2.1 p.1.parents.length (p.1.parents.map fun(n:Nat)=>Value.int .i64 (n:Int))
 pk:∃pv,o9 w O B st.packed bv cv LB pv
theorem o9.kept {w w' :eX}{O Z:Nat→Prop}{B:Nat}{pk:List UInt8}{bv cv pv:eB}{LB:List BrP}(h:o9 w O B pk bv cv LB pv)(hk:zf Z w w')(hB:B<w.heap.size)(a0:¬Z B)(hZ:∀g,pv.ownBlock=some g→¬Z g):o9 w' O B pk bv cv LB pv:=
 ⟨by rw[hk.cell (p:=⟨B,2,none⟩) hB a0];exact h.c2,zr h.row hk hZ,h.rowO⟩
def PS (w:eX)(M O:Nat→Prop)(B:Nat)(st:R.St):Prop:=∃bv cv LB LCm,PSx w M O B st bv cv LB LCm
def zx (w w' :eX)(M O:Nat→Prop)(B:Nat)(st' :R.St):Prop:=∃O',PS w' (fun b=>M b∨O' b) O' B st' ∧zf O w w' ∧(∀b,O' b→O b∨w.heap.size≤b)
theorem ku.kept {w w' :eX}{M M' Z:Nat→Prop}{p:BrP}(h:ku w M p)(hk:zf Z w w')(hb:p.2.1<w.heap.size)(hZ:¬Z p.2.1)(a0:∀b,Z b→M b)(hM:∀b,M' b→M b∨w.heap.size≤b):ku w' M' p:=
 ⟨by rw[hk.cell (p:=⟨p.2.1,0,none⟩) hb hZ];exact h.c0,by rw[hk.cell (p:=⟨p.2.1,1,none⟩) hb hZ];exact h.c1,by rw[hk.cell (p:=⟨p.2.1,2,none⟩) hb hZ];exact h.c2,
  fun o=>by rw[hk.frozen (p:=⟨p.2.1,o,none⟩) hb hZ];exact h.fr o,h.work.step hk a0 hM⟩
theorem PSx.kept {w w' :eX}{M O:Nat→Prop}{B:Nat}{st:R.St}{bv cv:eB}{LB:List BrP}{LCm:List (R.Cm×eB×eB)}(h:PSx w M O B st bv cv LB LCm){Z:Nat→Prop}(hk:zf Z w w')(hZ:∀b,Z b→M b∧¬O b){M' :Nat→Prop}(hM:∀b,M' b→M b∨w.heap.size≤b)(a2:∀b,O b→M' b):PSx w' M' O B st bv cv LB LCm:=by
 have hB:=h.lt B h.own;have a0:¬Z B:=fun e=>(hZ B e).2 h.own
 have a1:∀b,Z b→M b:=fun b e=>(hZ b e).1
 exact⟨a2,fun b hb=>j0b (h.lt b hb) hk.size,h.own,by rw[hk.cell (p:=⟨B,0,none⟩) hB a0];exact h.c0,by rw[hk.cell (p:=⟨B,1,none⟩) hB a0];exact h.c1,
  fun o=>by rw[hk.frozen (p:=⟨B,o,none⟩) hB a0];exact h.fr o,h.brs,zr h.row hk (fun g e e2=>(hZ g e2).2 (h.rowO g e).1),h.rowO,
  fun p hp=>(h.at_ p hp).kept hk (h.lt _ (h.blk p hp).1) (fun e=>(hZ _ e).2 (h.blk p hp).1) a1 hM,h.blk,h.dist,h.cms,zr h.crow hk (fun g e e2=>(hZ g e2).2 (h.crowO g e).1),h.crowO,
  fun p hp=>(h.ctree p hp).step hk a1 hM,fun p hp=>(h.cpar p hp).step hk a1 hM,
  by obtain⟨pv,hp⟩:=h.pk;exact⟨pv,hp.kept hk hB a0 (fun g e e2=>(hZ g e2).2 (hp.rowO g e).1)⟩⟩
theorem PS.kept {w w' :eX}{M O:Nat→Prop}{B:Nat}{st:R.St}(h:PS w M O B st){Z:Nat→Prop}(hk:zf Z w w')(hZ:∀b,Z b→M b∧¬O b){M' :Nat→Prop}(hM:∀b,M' b→M b∨w.heap.size≤b)(a0:∀b,O b→M' b):PS w' M' O B st:=by
 obtain⟨bv,cv,LB,LCm,h⟩:=h;exact⟨bv,cv,LB,LCm,h.kept hk hZ hM a0⟩
theorem PSx.below {w w' :eX}{M O:Nat→Prop}{B:Nat}{st:R.St}{bv cv:eB}{LB:List BrP}{LCm:List (R.Cm×eB×eB)}(h:PSx w M O B st bv cv LB LCm)(hb:tH w.heap.size w w'):PSx w' M O B st bv cv LB LCm:=
 h.kept (zf.of_below (M:=fun _=>False) hb) (fun _ e=>e.elim) (fun _ e=> .inl e) h.sub
theorem PS.below {w w' :eX}{M O:Nat→Prop}{B:Nat}{st:R.St}(h:PS w M O B st)(hb:tH w.heap.size w w'):PS w' M O B st:=by
 obtain⟨bv,cv,LB,LCm,h⟩:=h;exact⟨bv,cv,LB,LCm,h.below hb⟩
theorem zx.same {w w' :eX}{M O:Nat→Prop}{B:Nat}{st:R.St}(h:PS w M O B st)(hb:tH w.heap.size w w'):zx w w' M O B st:=by
 have hs:∀b,O b→M b:=by obtain⟨bv,cv,LB,LCm,h⟩:=h;exact h.sub
 exact⟨O,(h.below hb).kept (zf.refl (fun _=>False) _) (fun _ e=>e.elim) (fun b e=>by rcases e with e|e;exact .inl e;exact .inl (hs b e)) (fun b e=> .inr e),zf.of_below hb,fun b e=> .inl e⟩
theorem zx.trans {w w1 w2:eX}{M O O1:Nat→Prop}{B:Nat}{st:R.St}(hk:zf O w w1)(hO:∀b,O1 b→O b∨w.heap.size≤b)(h:zx w1 w2 (fun b=>M b∨O1 b) O1 B st):zx w w2 M O B st:=by
 obtain⟨O2,hp,a0,h2⟩:=h;refine⟨O2,hp.kept (zf.refl (fun _=>False) _) (fun _ e=>e.elim) (fun b e=> ?_) (fun b e=> .inr e),⟨a0.os.trans hk.os,a0.tape.trans hk.tape,a0.output.trans hk.output,j0f hk.size a0.size,fun k a1 hn=> ?_⟩,fun b e=> ?_⟩
 ·rcases e with e|e
  ·exact .inl (.inl (.inl e))
  ·exact .inl (.inr e)
 ·rw[a0.block k (j0b a1 hk.size) (fun e=>by rcases hO k e with e|e;exact hn e;omega)]
  exact hk.block k a1 hn
 ·rcases h2 b e with e|e
  ·exact hO b e
  ·exact .inr (j0f hk.size e)
theorem zx.after {w w1 w2:eX}{M O:Nat→Prop}{B:Nat}{st:R.St}(hb:tH w.heap.size w w1)(h:zx w1 w2 M O B st):zx w w2 M O B st:=by
 obtain⟨O2,hp,a0,h2⟩:=h;exact⟨O2,hp,(zf.of_below hb).trans a0,fun b e=>by
  rcases h2 b e with e|e
  ·exact .inl e
  ·exact .inr (j0f hb.size e)⟩
theorem qm {w:eX}{g:Nat}{L:List BrP}(hc:∀j u,(Xe L)[j]? =some u→w.cell? ⟨g,j,none⟩=some u)(i:Nat)(h:i<L.length):w.cell? ⟨g,i,none⟩=some (.pointer (some ⟨(L[i]'h).2.1,0,none⟩)):=
 hc i _ (by simp[Xe,h])
theorem jG {w w5:eX}{M O:Nat→Prop}{B:Nat}{st st' :R.St}{bv cv:eB}{LB LB' :List BrP}{LCm:List (R.Cm×eB×eB)}(hP:PSx w M O B st bv cv LB LCm){v3:eB}(hK:zf (fun b=>bv.ownBlock=some b) w w5)
  (a7:w5.ownsRow 0 88 1 v3 LB'.length (Xe LB'))(a3:∀g,v3.ownBlock=some g→bv.ownBlock=some g∨w.heap.size≤g)
  (a1:∀p∈LB',p∈LB∨(w.heap.size≤p.2.1∧p.2.1<w5.heap.size∧(PT w M p.2.2 p.1.work∧ku w5 (fun _=>False) p)∧v3.ownBlock≠some p.2.1))(a5:(LB'.map (·.2.1)).Nodup)(b5:LB'.map (·.1)=st'.brs)(b6:st'.cms=st.cms)(b7:st'.packed=st.packed):
  ∃O',PSx (w5.setCell ⟨B,0,none⟩ v3) (fun b=>M b∨O' b) O' B st' v3 cv LB' LCm∧zf O w (w5.setCell ⟨B,0,none⟩ v3)∧(∀b,O' b→O b∨w.heap.size≤b):=by
 have hB:=hP.lt B hP.own;have a4:bv.ownBlock≠some B:=fun e=>(hP.rowO B e).2 rfl
 have b2:∀b,(bv.ownBlock=some b∨b=B)→M b:=by
  rintro b (e|rfl)
  ·exact hP.sub b (hP.rowO b e).1
  ·exact hP.sub _ hP.own
 have a2:zf (fun b=>bv.ownBlock=some b∨b=B) w (w5.setCell ⟨B,0,none⟩ v3):=(hK.mono (fun b e=> .inl e)).setCell (p:=⟨B,0,none⟩) (.inl (.inr rfl)) v3;have a0:zf (fun b=>b=B) w5 (w5.setCell ⟨B,0,none⟩ v3):=(zf.refl (fun b=>b=B) w5).setCell (p:=⟨B,0,none⟩) (.inl rfl) v3;have b8:w5.cell? ⟨B,0,none⟩=some bv:=by rw[hK.cell (p:=⟨B,0,none⟩) hB a4];exact hP.c0
 have a8:v3.ownBlock≠some B:=fun e=>by
  rcases a3 B e with e|e
  ·exact a4 e
  ·omega
 have a9:∀O' :Nat→Prop,(∀b,O' b→O b∨w.heap.size≤b)→∀b,(M b∨O' b)→M b∨w.heap.size≤b:=fun O' h b e=>by
  rcases e with e|e
  ·exact .inl e
  ·rcases h b e with e|e
   ·exact .inl (hP.sub b e)
   ·exact .inr e
 refine⟨fun b=>O b∨v3.ownBlock=some b∨∃p∈LB',p.2.1=b,?_,a2.mono (fun b e=>by
  rcases e with e|rfl
  ·exact(hP.rowO b e).1
  ·exact hP.own),fun b e=>by
  rcases e with e|e|⟨p,hp,rfl⟩
  ·exact .inl e
  ·rcases a3 b e with e|e
   ·exact .inl (hP.rowO b e).1
   ·exact .inr e
  ·rcases a1 p hp with h|h
   ·exact .inl (hP.blk p h).1
   ·exact .inr h.1⟩
 have b1 :∀b,(O b∨v3.ownBlock=some b∨∃p∈LB',p.2.1=b)→O b∨w.heap.size≤b:=fun b e=>by
  rcases e with e|e|⟨p,hp,rfl⟩
  ·exact .inl e
  ·rcases a3 b e with e|e
   ·exact .inl (hP.rowO b e).1
   ·exact .inr e
  ·rcases a1 p hp with h|h
   ·exact .inl (hP.blk p h).1
   ·exact .inr h.1
 have c6:w.heap.size≤w5.heap.size:=hK.size;refine⟨fun b e=> .inr e,fun b e=> ?_,.inl hP.own,Yh _ _ _ _ _ b8,?_,fun o=> ?_,b5,zr a7 a0 (fun g e e2=>a8 (by rw[e,e2])),fun g e=>⟨.inr (.inl e),fun e2=>a8 (by rw[e,e2])⟩,?_,?_,a5,by rw[b6];exact hP.cms,?_,?_,?_,?_,?_⟩
 ·have:b<w5.heap.size:=by
   rcases e with e|e|⟨p,hp,rfl⟩
   ·have:=hP.lt b e;omega
   ·exact(a7.lt b e).2
   ·rcases a1 p hp with h|h
    ·have:=hP.lt _ (hP.blk p h).1;omega
    ·exact h.2.1
  exact j0b this a0.size
 ·rw[zN _ _ _ _ _ (by omega),hK.cell (p:=⟨B,1,none⟩) hB a4];exact hP.c1
 ·have:=(zf.refl (fun b=>b=B) w5).setCell (p:=⟨B,0,none⟩) (.inl rfl) v3
  rw[tI,hK.frozen (p:=⟨B,o,none⟩) hB a4];exact hP.fr o
 ·intro p hp
  rcases a1 p hp with h|h
  ·exact(hP.at_ p h).kept a2 (hP.lt _ (hP.blk p h).1) (fun e=>by
    rcases e with e|e
    ·exact(hP.blk p h).2.2.1 e
    ·exact(hP.blk p h).2.1 e) b2 (a9 _ b1)
  ·have b3:=h.2.2.1.2
   have b4:¬p.2.1=B:=by have:=h.1;omega
   exact⟨by rw[a0.cell (p:=⟨p.2.1,0,none⟩) h.2.1 b4];exact b3.c0,by rw[a0.cell (p:=⟨p.2.1,1,none⟩) h.2.1 b4];exact b3.c1,by rw[a0.cell (p:=⟨p.2.1,2,none⟩) h.2.1 b4];exact b3.c2,
    fun o=>by rw[a0.frozen (p:=⟨p.2.1,o,none⟩) h.2.1 b4];exact b3.fr o,h.2.2.1.1.step a2 b2 (a9 _ b1)⟩
 ·intro p hp
  refine⟨.inr (.inr ⟨p,hp,rfl⟩),?_⟩;rcases a1 p hp with h|h
  ·refine⟨(hP.blk p h).2.1,fun e=> ?_,(hP.blk p h).2.2.2⟩
   rcases a3 _ e with e|e
   ·exact(hP.blk p h).2.2.1 e
   ·have:=hP.lt _ (hP.blk p h).1;omega
  ·exact⟨by omega,h.2.2.2,fun e=>by have:=hP.lt _ (hP.crowO _ e).1;omega⟩
 ·exact zr hP.crow a2 (fun g e e2=>by
   rcases e2 with e2|e2
   ·exact(hP.crowO g e).2.2 e2
   ·exact(hP.crowO g e).2.1 e2)
 ·intro g e
  refine⟨.inl (hP.crowO g e).1,(hP.crowO g e).2.1,fun e2=> ?_⟩;rcases a3 g e2 with e2|e2
  ·exact(hP.crowO g e).2.2 e2
  ·have:=hP.lt _ (hP.crowO g e).1;omega
 ·exact fun p hp=>(hP.ctree p hp).step a2 b2 (a9 _ b1)
 ·exact fun p hp=>(hP.cpar p hp).step a2 b2 (a9 _ b1)
 ·rw[b7]
  obtain⟨pv,a6⟩:=hP.pk;have hZ:∀g,pv.ownBlock=some g→¬(bv.ownBlock=some g∨g=B):=fun g e e2=>by
   rcases e2 with e2|e2
   ·exact(a6.rowO g e).2.2.1 e2
   ·exact(a6.rowO g e).2.1 e2
  refine⟨pv,?_,zr a6.row a2 hZ,fun g e=> ?_⟩
  ·rw[zN _ _ _ _ _ (by omega),hK.cell (p:=⟨B,2,none⟩) hB a4];exact a6.c2
  ·have hg:=a6.rowO g e
   have b9:=hP.lt g hg.1;refine⟨.inl hg.1,hg.2.1,fun e2=> ?_,hg.2.2.2.1,fun p hp=> ?_⟩
   ·rcases a3 g e2 with e2|e2
    ·exact hg.2.2.1 e2
    ·omega
   ·rcases a1 p hp with h|h
    ·exact hg.2.2.2.2 p h
    ·have:=h.1;omega
theorem cT {w w5:eX}{M O:Nat→Prop}{B:Nat}{st st' :R.St}{bv cv:eB}{LB:List BrP}{LCm:List (R.Cm×eB×eB)}(hP:PSx w M O B st bv cv LB LCm){v3:eB}(hK:zf (fun b=>bv.ownBlock=some b) w w5)(nb:BrP)
  (a5:w5.ownsRow 0 88 1 v3 (LB.length+1) ((Xe LB).take (R.pos st.brs nb.1.name)++(Value.pointer (some ⟨nb.2.1,0,none⟩)::(Xe LB).drop (R.pos st.brs nb.1.name))))(a8:∀g,v3.ownBlock=some g→bv.ownBlock=some g∨w.heap.size≤g)
  (a6:w.heap.size≤nb.2.1∧nb.2.1<w5.heap.size∧(PT w M nb.2.2 nb.1.work∧ku w5 (fun _=>False) nb)∧v3.ownBlock≠some nb.2.1)(a1:st'.brs=R.insB st.brs nb.1)(a2:st'.cms=st.cms)(a4:st'.packed=st.packed):
  ∃O',PSx (w5.setCell ⟨B,0,none⟩ v3) (fun b=>M b∨O' b) O' B st' v3 cv (LB.take (R.pos st.brs nb.1.name)++nb::LB.drop (R.pos st.brs nb.1.name)) LCm∧zf O w (w5.setCell ⟨B,0,none⟩ v3)∧(∀b,O' b→O b∨w.heap.size≤b):=by
 have a3:st.brs.length=LB.length:=by rw[←hP.brs,List.length_map]
 have a7:R.pos st.brs nb.1.name≤LB.length:=by rw[←a3];exact List.findIdx_le_length
 generalize hp:R.pos st.brs nb.1.name=p at*;refine jG hP hK (LB' :=LB.take p++nb::LB.drop p) ?_ a8 ?_ ?_ ?_ a2 a4
 ·have e1:(LB.take p++nb::LB.drop p).length=LB.length+1:=by simp only[nL,pZ,nM,rA];omega
  have e2:Xe (LB.take p++nb::LB.drop p)=(Xe LB).take p++(Value.pointer (some ⟨nb.2.1,0,none⟩)::(Xe LB).drop p):=by simp[Xe,tJ,tK]
  rw[e1,e2];exact a5
 ·intro q hq
  rcases iZ.1 hq with h|h
  ·exact .inl (List.mem_of_mem_take h)
  ·rcases iT.1 h with rfl|h
   ·exact .inr a6
   ·exact .inl (List.mem_of_mem_drop h)
 ·have a0:(LB.take p++nb::LB.drop p).Perm (nb::LB):=by
   have:=List.perm_middle (l₁:=LB.take p) (a:=nb) (l₂:=LB.drop p);rwa[nS]at this
  rw[(a0.map (fun q:BrP=>q.2.1)).nodup_iff,List.map_cons,List.nodup_cons];refine⟨fun hm=> ?_,hP.dist⟩;obtain⟨q,hq,e⟩:=List.mem_map.1 hm;have:=hP.lt _ (hP.blk q hq).1;have:=a6.1;omega
 ·rw[a1,R.insB,hp,←hP.brs];simp[tJ,tK]
theorem Ch {w w5:eX}{M O:Nat→Prop}{B:Nat}{st st' :R.St}{bv cv:eB}{LB:List BrP}{LCm:List (R.Cm×eB×eB)}(hP:PSx w M O B st bv cv LB LCm){v3:eB}(hK:zf (fun b=>bv.ownBlock=some b) w w5){p:Nat}(hp:p<LB.length)
  (a4:w5.ownsRow 0 88 1 v3 (LB.length-1) ((Xe LB).take p++(Xe LB).drop (p+1)))(a5:∀g,v3.ownBlock=some g→bv.ownBlock=some g∨w.heap.size≤g)
  (a1:st'.brs=st.brs.take p++st.brs.drop (p+1))(a2:st'.cms=st.cms)(a3:st'.packed=st.packed):
  ∃O',PSx (w5.setCell ⟨B,0,none⟩ v3) (fun b=>M b∨O' b) O' B st' v3 cv (LB.take p++LB.drop (p+1)) LCm∧zf O w (w5.setCell ⟨B,0,none⟩ v3)∧(∀b,O' b→O b∨w.heap.size≤b):=by
 have a0:(LB.take p++LB.drop (p+1)).Sublist LB:=by
  have h1:(LB.drop (p+1)).Sublist (LB.drop p):=by rw[←List.drop_drop];exact List.drop_sublist _ _
  have:=List.Sublist.append (List.Sublist.refl (LB.take p)) h1;rwa[nS]at this
 refine jG hP hK (LB' :=LB.take p++LB.drop (p+1)) ?_ a5 (fun q hq=> .inl (a0.subset hq)) ((a0.map _).nodup hP.dist) ?_ a2 a3
 ·have e1:(LB.take p++LB.drop (p+1)).length=LB.length-1:=by simp only[nL,pZ,rA];omega
  have e2:Xe (LB.take p++LB.drop (p+1))=(Xe LB).take p++(Xe LB).drop (p+1):=by simp[Xe,tJ,tK]
  rw[e1,e2];exact a4
 ·rw[a1,←hP.brs];simp[tJ,tK]
theorem Qy {w w5 w6:eX}{M O:Nat→Prop}{B:Nat}{st:R.St}{bv cv:eB}{LB:List BrP}{LCm:List (R.Cm×eB×eB)}(hP:PSx w M O B st bv cv LB LCm){i:Nat}(hi:i<LB.length){tv:eB}{nb:R.Br}(b1:tH w.heap.size w w5)
  (a1:zf (fun b=>b=(LB[i]'hi).2.1) w5 w6)(b5:ku w6 M (nb,(LB[i]'hi).2.1,tv)):
  PSx w6 M O B {st with brs:=st.brs.set i nb} bv cv (LB.set i (nb,(LB[i]'hi).2.1,tv)) LCm∧zf O w w6:=by
 have a0:=hP.below b1;have a8:LB[i]'hi∈LB:=j0c hi;obtain⟨hO,a4,b4,b3⟩:=hP.blk _ a8;have b7:=a0.lt _ hO;generalize hx:LB[i]'hi=x at*;have a7:∀b,b=x.2.1→M b:=fun b e=>by subst e;exact hP.sub _ hO
 have a6:∀b,M b→M b∨w5.heap.size≤b:=fun b e=> .inl e
 refine⟨?_,((zf.of_below b1).mono (M:=fun _=>False) (fun _ e=>e.elim)).trans (a1.mono (fun b e=>by subst e;exact hO))⟩;have a2:(LB.set i (nb,x.2.1,tv)).map (·.2.1)=LB.map (·.2.1):=by
  rw[tL];apply List.ext_getElem?;intro j;rw[List.getElem?_set];split
  ·rename_i e;subst e;simp[hi,hx]
  ·rfl
 have a9:Xe (LB.set i (nb,x.2.1,tv))=Xe LB:=by
  have:=congrArg (List.map fun b:Nat=>Value.pointer (some ⟨b,0,none⟩)) a2;simpa[Xe,List.map_map,Function.comp_def]using this
 have a3:∀p∈LB.set i (nb,x.2.1,tv),p=(nb,x.2.1,tv)∨(p∈LB∧p.2.1≠x.2.1):=by
  intro p hp;obtain⟨j,hj,rfl⟩:=List.getElem_of_mem hp;rw[List.getElem_set];split
  ·exact .inl rfl
  ·rename_i b6
   have b2 :j<LB.length:=by simpa using hj
   refine .inr ⟨j0c _,fun e=>b6 ?_⟩;have hd:=hP.dist;unfold List.Nodup at hd;rw[List.pairwise_iff_getElem]at hd;rcases Nat.lt_trichotomy i j with h|h|h
   ·exact(hd i j (by simpa using hi) (by simpa using b2) h (by rw[tM,tM,hx];exact e.symm)).elim
   ·exact h
   ·exact(hd j i (by simpa using b2) (by simpa using hi) h (by rw[tM,tM,hx];exact e)).elim
 refine⟨hP.sub,fun b e=>j0b (a0.lt b e) a1.size,hP.own,?_,?_,fun o=> ?_,?_,?_,hP.rowO,?_,?_,by rw[a2];exact hP.dist,hP.cms,?_,hP.crowO,?_,?_,?_⟩
 ·rw[a1.cell (p:=⟨B,0,none⟩) (a0.lt B hP.own) (fun e=>a4 e.symm)];exact a0.c0
 ·rw[a1.cell (p:=⟨B,1,none⟩) (a0.lt B hP.own) (fun e=>a4 e.symm)];exact a0.c1
 ·rw[a1.frozen (p:=⟨B,o,none⟩) (a0.lt B hP.own) (fun e=>a4 e.symm)];exact a0.fr o
 ·rw[tL,hP.brs]
 ·rw[tE,a9]
  exact zr a0.row a1 (fun g e e2=>b4 (by rw[e,e2]))
 ·intro p hp
  rcases a3 p hp with rfl|⟨hp,b8⟩
  ·exact b5
  ·exact(a0.at_ p hp).kept a1 (a0.lt _ (hP.blk p hp).1) b8 a7 a6
 ·intro p hp
  rcases a3 p hp with rfl|⟨hp,_⟩
  ·exact⟨hO,a4,b4,b3⟩
  ·exact hP.blk p hp
 ·exact zr a0.crow a1 (fun g e e2=>b3 (by rw[e,e2]))
 ·exact fun p hp=>(a0.ctree p hp).step a1 a7 a6
 ·exact fun p hp=>(a0.cpar p hp).step a1 a7 a6
 ·obtain⟨pv,a5⟩:=a0.pk
  refine⟨pv,?_,zr a5.row a1 (fun g e e2=>(a5.rowO g e).2.2.2.2 x (by rw[←hx];exact j0c hi) e2.symm),fun g e=> ?_⟩
  ·rw[a1.cell (p:=⟨B,2,none⟩) (a0.lt B hP.own) (fun e=>a4 e.symm)];exact a5.c2
  ·have hg:=a5.rowO g e
   refine⟨hg.1,hg.2.1,hg.2.2.1,hg.2.2.2.1,fun p hp=> ?_⟩;rcases a3 p hp with rfl|⟨hp,_⟩
   ·exact hg.2.2.2.2 x (by rw[←hx];exact j0c hi)
   ·exact hg.2.2.2.2 p hp
theorem PSx.toStep {w w' :eX}{M O O' :Nat→Prop}{B:Nat}{st' :R.St}{bv cv:eB}{LB:List BrP}{LCm:List (R.Cm×eB×eB)}(h:PSx w' (fun b=>M b∨O' b) O' B st' bv cv LB LCm)(hk:zf O w w')(hO:∀b,O' b→O b∨w.heap.size≤b):zx w w' M O B st' :=⟨O',⟨bv,cv,LB,LCm,h⟩,hk,hO⟩
theorem PSx.widen {w:eX}{M O:Nat→Prop}{B:Nat}{st:R.St}{bv cv:eB}{LB:List BrP}{LCm:List (R.Cm×eB×eB)}(h:PSx w M O B st bv cv LB LCm):PSx w (fun b=>M b∨O b) O B st bv cv LB LCm:=
 h.kept (zf.refl (fun _=>False) _) (fun _ e=>e.elim) (fun b e=>by rcases e with e|e;exact .inl e;exact .inl (h.sub b e)) (fun b e=> .inr e)
theorem gN {w w5:eX}{M O:Nat→Prop}{B:Nat}{st:R.St}{bv cv:eB}{LB:List BrP}{LCm:List (R.Cm×eB×eB)}(hP:PSx w M O B st bv cv LB LCm){i:Nat}(hi:i<LB.length){tv:eB}{t:List R.Leaf}(a2:tH w.heap.size w w5)(a4:PT w5 M tv t):
  zx w (w5.setCell ⟨(LB[i]'hi).2.1,2,none⟩ tv) M O B (R.setWork st i t):=by
 have a0:=(hP.below a2).at_ _ (j0c hi);have hO:=(hP.blk _ (j0c hi)).1;have a1:zf (fun b=>b=(LB[i]'hi).2.1) w5 (w5.setCell ⟨(LB[i]'hi).2.1,2,none⟩ tv):=(zf.refl (fun b=>b=(LB[i]'hi).2.1) w5).setCell (p:=⟨(LB[i]'hi).2.1,2,none⟩) (.inl rfl) tv;obtain⟨h1,h2⟩:=Qy (nb:={(LB[i]'hi).1 with work:=t}) (tv:=tv) hP hi a2 a1 ⟨by rw[zN _ _ _ _ _ (by omega)];exact a0.c0,by rw[zN _ _ _ _ _ (by omega)];exact a0.c1,Yh _ _ _ _ _ a0.c2,fun o=>by rw[tI];exact a0.fr o,
  a4.step a1 (fun b e=>by subst e;exact hP.sub _ hO) (fun b e=> .inl e)⟩
 have he:R.setWork st i t={st with brs:=st.brs.set i {(LB[i]'hi).1 with work:=t}}:=by
  have a3:st.brs[i]? =some (LB[i]'hi).1:=by rw[←hP.brs,List.getElem?_map,j0d hi];rfl
  unfold R.setWork;rw[a3]
 rw[he];exact h1.widen.toStep h2 (fun b e=> .inl e)
theorem F_ {w w5:eX}{M O:Nat→Prop}{B:Nat}{st:R.St}{bv cv pv:eB}{LB:List BrP}{LCm:List (R.Cm×eB×eB)}(hP:PSx w M O B st bv cv LB LCm)(a0:o9 w O B st.packed bv cv LB pv){v3:eB}{pk:List UInt8}(hK:zf (fun b=>pv.ownBlock=some b) w w5)
  (a4:w5.ownsRow 0 5 1 v3 pk.length (tG pk))(a7:∀g,v3.ownBlock=some g→pv.ownBlock=some g∨w.heap.size≤g):
  zx w (w5.setCell ⟨B,2,none⟩ v3) M O B {st with packed:=pk}:=by
 have hB:=hP.lt B hP.own;have a2:pv.ownBlock≠some B:=fun e=>(a0.rowO B e).2.1 rfl
 have a1:zf (fun b=>pv.ownBlock=some b∨b=B) w (w5.setCell ⟨B,2,none⟩ v3):=(hK.mono (fun b e=> .inl e)).setCell (p:=⟨B,2,none⟩) (.inl (.inr rfl)) v3;have a3:zf (fun b=>b=B) w5 (w5.setCell ⟨B,2,none⟩ v3):=(zf.refl (fun b=>b=B) w5).setCell (p:=⟨B,2,none⟩) (.inl rfl) v3;have a6:∀b,(pv.ownBlock=some b∨b=B)→M b:=by
  rintro b (e|rfl)
  ·exact hP.sub b (a0.rowO b e).1
  ·exact hP.sub _ hP.own
 have a8:v3.ownBlock≠some B:=fun e=>by
  rcases a7 B e with e|e
  ·exact a2 e
  ·omega
 have a9 :∀b,(O b∨v3.ownBlock=some b)→O b∨w.heap.size≤b:=fun b e=>by
  rcases e with e|e
  ·exact .inl e
  ·rcases a7 b e with e|e
   ·exact .inl (a0.rowO b e).1
   ·exact .inr e
 have a5:∀b,(M b∨(O b∨v3.ownBlock=some b))→M b∨w.heap.size≤b:=fun b e=>by
  rcases e with e|e
  ·exact .inl e
  ·rcases a9 b e with e|e
   ·exact .inl (hP.sub b e)
   ·exact .inr e
 have b1:w.heap.size≤w5.heap.size:=hK.size;refine⟨fun b=>O b∨v3.ownBlock=some b,⟨bv,cv,LB,LCm,fun b e=> .inr e,fun b e=> ?_,.inl hP.own,?_,?_,fun o=> ?_,hP.brs,?_,fun g e=>⟨.inl (hP.rowO g e).1,(hP.rowO g e).2⟩,?_,fun p hp=>⟨.inl (hP.blk p hp).1,(hP.blk p hp).2⟩,hP.dist,hP.cms,?_,fun g e=>⟨.inl (hP.crowO g e).1,(hP.crowO g e).2⟩,?_,?_,v3,?_,?_,?_⟩,a1.mono (fun b e=>by
  rcases e with e|rfl
  ·exact(a0.rowO b e).1
  ·exact hP.own),a9⟩
 ·have:b<w5.heap.size:=by
   rcases e with e|e
   ·have:=hP.lt b e;omega
   ·exact(a4.lt b e).2
  exact j0b this a3.size
 ·rw[zN _ _ _ _ _ (by omega),hK.cell (p:=⟨B,0,none⟩) hB a2];exact hP.c0
 ·rw[zN _ _ _ _ _ (by omega),hK.cell (p:=⟨B,1,none⟩) hB a2];exact hP.c1
 ·rw[tI,hK.frozen (p:=⟨B,o,none⟩) hB a2];exact hP.fr o
 ·exact zr hP.row a1 (fun g e e2=>by
   rcases e2 with e2|e2
   ·exact(a0.rowO g e2).2.2.1 e
   ·exact(hP.rowO g e).2 e2)
 ·exact fun p hp=>(hP.at_ p hp).kept a1 (hP.lt _ (hP.blk p hp).1) (fun e=>by
   rcases e with e|e
   ·exact(a0.rowO _ e).2.2.2.2 p hp rfl
   ·exact(hP.blk p hp).2.1 e) a6 a5
 ·exact zr hP.crow a1 (fun g e e2=>by
   rcases e2 with e2|e2
   ·exact(a0.rowO g e2).2.2.2.1 e
   ·exact(hP.crowO g e).2.1 e2)
 ·exact fun p hp=>(hP.ctree p hp).step a1 a6 a5
 ·exact fun p hp=>(hP.cpar p hp).step a1 a6 a5
 ·exact Yh _ _ _ _ pv (by rw[hK.cell (p:=⟨B,2,none⟩) hB a2];exact a0.c2)
 ·exact zr a4 a3 (fun g e e2=>a8 (by rw[e,e2]))
 ·intro g e
  rcases a7 g e with e2|e2
  ·have hg:=a0.rowO g e2
   exact⟨.inr e,hg.2.1,hg.2.2⟩
  ·refine⟨.inr e,by omega,fun e3=> ?_,fun e3=> ?_,fun p hp e3=> ?_⟩
   ·have:=hP.lt _ (hP.rowO _ e3).1;omega
   ·have:=hP.lt _ (hP.crowO _ e3).1;omega
   ·have:=hP.lt _ (hP.blk p hp).1;omega
structure Ap (wr w' :eX)(v v' :eB):Prop where
 os:w'.os=wr.os
 tape:w'.tape=wr.tape
 output:w'.output=wr.output
 size:wr.heap.size≤w'.heap.size
 blk:∀k,k<wr.heap.size→v.ownBlock≠some k→w'.heap[k]? =wr.heap[k]?
 lies:∀g,v'.ownBlock=some g→v.ownBlock=some g∨wr.heap.size≤g
 moved:∀g,g<wr.heap.size→v'.ownBlock≠some g→w'.heap[g]? =wr.heap[g]?
def VL (wr:eX)(H0:Nat)(nv tv lv:eB)(n:Nat)(m:eB)(v:eB):Prop:=
 ∃a k c,v= .slice a k c∧k≤c∧c≤maxLen∧(0<k→∃g,a=some ⟨g,0,none⟩∧H0≤g∧g<wr.heap.size∧nv.ownBlock≠some g∧tv.ownBlock≠some g∧(∀j,j<k→wr.cell? ⟨g,j,none⟩=some m)∧(lv.ownBlock=some g→k≤n))
structure KI (LT ET o1 o2:Nat)(w0 wr:eX)(Wb:Nat)(nv0 tv0:eB)(nvals tvals:List eB)(m:eB)(last:Nat)(nv tv:eB)(vals:List eB)(t:Nat)(lv:eB)(n:Nat):Prop where
 kept:zf (fun b=>nv0.ownBlock=some b∨tv0.ownBlock=some b∨b=Wb) w0 wr
 cs:∀o,o≠o1→o≠o2→o≠5→wr.cell? ⟨Wb,o,none⟩=w0.cell? ⟨Wb,o,none⟩
 c1:wr.cell? ⟨Wb,o1,none⟩=some nv
 c2:wr.cell? ⟨Wb,o2,none⟩=some tv
 c5:wr.cell? ⟨Wb,5,none⟩=some (.int .i64 (last:Int))
 fr:∀o,wr.frozen? ⟨Wb,o,none⟩=false
 nrow:wr.ownsRow 0 LT 1 nv (nvals.length+vals.length) (nvals++vals)
 trow:wr.ownsRow 0 ET 1 tv (tvals.length+t) (tvals++tF t m)
 lrow:wr.ownsRow w0.heap.size ET 1 lv n (tF n m)
 nl:∀g,nv.ownBlock=some g→nv0.ownBlock=some g∨w0.heap.size≤g
 tl:∀g,tv.ownBlock=some g→tv0.ownBlock=some g∨w0.heap.size≤g
 nt:∀g,nv.ownBlock=some g→tv.ownBlock≠some g
 ln:∀g,lv.ownBlock=some g→nv.ownBlock≠some g∧tv.ownBlock≠some g
 vl:∀v∈vals,VL wr w0.heap.size nv tv lv n m v
 wb:Wb<w0.heap.size
 nW:nv0.ownBlock≠some Wb
 tW:tv0.ownBlock≠some Wb
 dis:o1≠o2∧o1≠5∧o2≠5
section
variable {LT ET o1 o2:Nat}{w0 wr w1:eX}{Wb:Nat}{nv0 tv0:eB}{nvals tvals:List eB}{m:eB}{last:Nat}{nv tv:eB}{vals:List eB}{t:Nat}{lv:eB}{n:Nat}
end
def YO (w w' :eX)(M O:Nat→Prop)(B:Nat)(st' :R.St)(bv cv:eB)(LB:List BrP)(LCm:List (R.Cm×eB×eB)):Prop:=∃O',PSx w' (fun b=>M b∨O' b) O' B st' bv cv LB LCm∧zf O w w' ∧(∀b,O' b→O b∨w.heap.size≤b)
theorem YO.trans {w w1 w2:eX}{M O O1:Nat→Prop}{B:Nat}{st:R.St}{bv cv:eB}{LB:List BrP}{LCm:List (R.Cm×eB×eB)}(hk:zf O w w1)(hO:∀b,O1 b→O b∨w.heap.size≤b)(h:YO w1 w2 (fun b=>M b∨O1 b) O1 B st bv cv LB LCm):YO w w2 M O B st bv cv LB LCm:=by
 obtain⟨O2,hp,a0,h2⟩:=h;refine⟨O2,hp.kept (zf.refl (fun _=>False) _) (fun _ e=>e.elim) (fun b e=> ?_) (fun b e=> .inr e),⟨a0.os.trans hk.os,a0.tape.trans hk.tape,a0.output.trans hk.output,j0f hk.size a0.size,fun k a1 hn=> ?_⟩,fun b e=> ?_⟩
 ·rcases e with e|e
  ·exact .inl (.inl (.inl e))
  ·exact .inl (.inr e)
 ·rw[a0.block k (j0b a1 hk.size) (fun e=>by rcases hO k e with e|e;exact hn e;omega)]
  exact hk.block k a1 hn
 ·rcases h2 b e with e|e
  ·exact hO b e
  ·exact .inr (j0f hk.size e)
theorem fE {w w5:eX}{M O:Nat→Prop}{B:Nat}{st:R.St}{bv cv pv:eB}{LB:List BrP}{LCm:List (R.Cm×eB×eB)}(hP:PSx w M O B st bv cv LB LCm)(a0:o9 w O B st.packed bv cv LB pv){v3:eB}{pk:List UInt8}(hK:zf (fun b=>pv.ownBlock=some b) w w5)
  (a4:w5.ownsRow 0 5 1 v3 pk.length (tG pk))(a7:∀g,v3.ownBlock=some g→pv.ownBlock=some g∨w.heap.size≤g):
  YO w (w5.setCell ⟨B,2,none⟩ v3) M O B {st with packed:=pk} bv cv LB LCm:=by
 have hB:=hP.lt B hP.own;have a2:pv.ownBlock≠some B:=fun e=>(a0.rowO B e).2.1 rfl
 have a1:zf (fun b=>pv.ownBlock=some b∨b=B) w (w5.setCell ⟨B,2,none⟩ v3):=(hK.mono (fun b e=> .inl e)).setCell (p:=⟨B,2,none⟩) (.inl (.inr rfl)) v3;have a3:zf (fun b=>b=B) w5 (w5.setCell ⟨B,2,none⟩ v3):=(zf.refl (fun b=>b=B) w5).setCell (p:=⟨B,2,none⟩) (.inl rfl) v3;have a6:∀b,(pv.ownBlock=some b∨b=B)→M b:=by
  rintro b (e|rfl)
  ·exact hP.sub b (a0.rowO b e).1
  ·exact hP.sub _ hP.own
 have a8:v3.ownBlock≠some B:=fun e=>by
  rcases a7 B e with e|e
  ·exact a2 e
  ·omega
 have a9 :∀b,(O b∨v3.ownBlock=some b)→O b∨w.heap.size≤b:=fun b e=>by
  rcases e with e|e
  ·exact .inl e
  ·rcases a7 b e with e|e
   ·exact .inl (a0.rowO b e).1
   ·exact .inr e
 have a5:∀b,(M b∨(O b∨v3.ownBlock=some b))→M b∨w.heap.size≤b:=fun b e=>by
  rcases e with e|e
  ·exact .inl e
  ·rcases a9 b e with e|e
   ·exact .inl (hP.sub b e)
   ·exact .inr e
 have b1:w.heap.size≤w5.heap.size:=hK.size;refine⟨fun b=>O b∨v3.ownBlock=some b,⟨fun b e=> .inr e,fun b e=> ?_,.inl hP.own,?_,?_,fun o=> ?_,hP.brs,?_,fun g e=>⟨.inl (hP.rowO g e).1,(hP.rowO g e).2⟩,?_,fun p hp=>⟨.inl (hP.blk p hp).1,(hP.blk p hp).2⟩,hP.dist,hP.cms,?_,fun g e=>⟨.inl (hP.crowO g e).1,(hP.crowO g e).2⟩,?_,?_,v3,?_,?_,?_⟩,a1.mono (fun b e=>by
  rcases e with e|rfl
  ·exact(a0.rowO b e).1
  ·exact hP.own),a9⟩
 ·have:b<w5.heap.size:=by
   rcases e with e|e
   ·have:=hP.lt b e;omega
   ·exact(a4.lt b e).2
  exact j0b this a3.size
 ·rw[zN _ _ _ _ _ (by omega),hK.cell (p:=⟨B,0,none⟩) hB a2];exact hP.c0
 ·rw[zN _ _ _ _ _ (by omega),hK.cell (p:=⟨B,1,none⟩) hB a2];exact hP.c1
 ·rw[tI,hK.frozen (p:=⟨B,o,none⟩) hB a2];exact hP.fr o
 ·exact zr hP.row a1 (fun g e e2=>by
   rcases e2 with e2|e2
   ·exact(a0.rowO g e2).2.2.1 e
   ·exact(hP.rowO g e).2 e2)
 ·exact fun p hp=>(hP.at_ p hp).kept a1 (hP.lt _ (hP.blk p hp).1) (fun e=>by
   rcases e with e|e
   ·exact(a0.rowO _ e).2.2.2.2 p hp rfl
   ·exact(hP.blk p hp).2.1 e) a6 a5
 ·exact zr hP.crow a1 (fun g e e2=>by
   rcases e2 with e2|e2
   ·exact(a0.rowO g e2).2.2.2.1 e
   ·exact(hP.crowO g e).2.1 e2)
 ·exact fun p hp=>(hP.ctree p hp).step a1 a6 a5
 ·exact fun p hp=>(hP.cpar p hp).step a1 a6 a5
 ·exact Yh _ _ _ _ pv (by rw[hK.cell (p:=⟨B,2,none⟩) hB a2];exact a0.c2)
 ·exact zr a4 a3 (fun g e e2=>a8 (by rw[e,e2]))
 ·intro g e
  rcases a7 g e with e2|e2
  ·have hg:=a0.rowO g e2
   exact⟨.inr e,hg.2.1,hg.2.2⟩
  ·refine⟨.inr e,by omega,fun e3=> ?_,fun e3=> ?_,fun p hp e3=> ?_⟩
   ·have:=hP.lt _ (hP.rowO _ e3).1;omega
   ·have:=hP.lt _ (hP.crowO _ e3).1;omega
   ·have:=hP.lt _ (hP.blk p hp).1;omega
