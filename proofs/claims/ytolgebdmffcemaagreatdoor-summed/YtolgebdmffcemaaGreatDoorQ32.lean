import Derived.Test.YtolgebdmffcemaaGreatDoorQ31
import Derived.Test.YtolgebdmffcemaaGreatDoorQ22
set_option linter.all false
set_option maxHeartbeats 20000000
set_option maxRecDepth 1000000
namespace Go.Proofs.YtolgebdmffcemaaGreatDoor
open Go.RowKit Go Go.Conc
def Q4 (c n:Int):Int:=(if c<0 then-(c+1)else c) % n
theorem Gr (c n:Int)(h:0<n):0≤Q4 c n∧Q4 c n<n:=⟨Int.emod_nonneg _ (by omega),Int.emod_lt_of_pos _ h⟩
theorem cn (c n:Int)(w:World)(h1: -9223372036854775808≤c)(h2:c≤9223372036854775807)(hn:0<n)(a0:n≤9223372036854775807):
  Calls Tryz.prog 25 #[.int .i64 c,.int .i64 n] w fun e w' =>e= .returned (.int .i64 (Q4 c n))∧w' =w:=by
 by_cases hc:c<0
 ·have HP:Hid (Q4 c n=(-(c+1)).tmod n):=by
   show _=_;unfold Q4;rw[if_pos hc,Int.tmod_eq_emod_of_nonneg (by omega)]
  go_enter Tryz.func25,Tryz.ntmps25;go_wp2;go_ret;exact⟨xA (by rw[HP.out,Int.neg_tmod]),rfl⟩
 ·have HP:Hid (Q4 c n=c % n):=by
   show _=_;unfold Q4;rw[if_neg hc]
  go_enter Tryz.func25,Tryz.ntmps25;go_wp2;go_ret;exact⟨xA HP.out,rfl⟩
structure yU (H:Nat→Prop)(w w' :World):Prop where
 os:w'.os=w.os
 output:w'.output=w.output
 size:w.heap.size≤w'.heap.size
 block:∀k,H k→w'.heap[k]? =w.heap[k]?
theorem yU.refl (H:Nat→Prop)(w:World):yU H w w:=⟨rfl,rfl,j0a _,fun _ _=>rfl⟩
theorem yU.trans {H:Nat→Prop}{w w1 w2:World}(h:yU H w w1)(h2:yU H w1 w2):yU H w w2:=⟨h2.os.trans h.os,h2.output.trans h.output,j0f h.size h2.size,fun k hk=>(h2.block k hk).trans (h.block k hk)⟩
theorem ze.h {w w' :World}(k:ze w w'){H:Nat→Prop}(hs:∀b,H b→b<w.heap.size):yU H w w' :=⟨k.os,k.output,k.size,fun b hb=>k.block b (hs b hb)⟩
theorem yU.m {H:Nat→Prop}{w w' :World}(h:yU H w w')(hs:∀b,b<w.heap.size→H b):ze w w' :=⟨h.os,h.output,h.size,fun b hb=>h.block b (hs b hb)⟩
theorem yU.smaller {H H2:Nat→Prop}{w w' :World}(h:yU H w w')(hs:∀b,H2 b→H b):yU H2 w w' :=⟨h.os,h.output,h.size,fun b hb=>h.block b (hs b hb)⟩
theorem yU.cell {H:Nat→Prop}{w w' :World}(h:yU H w w'){p:Addr}(hp:H p.block):w'.cell? p=w.cell? p:=World.cell?_of_block (w:=w) (h.block _ hp)
def KS (w0:World)(H:Nat→Prop)(B:Nat)(st:R.St)(c:Nat)(w:World):Prop:=∃O:Nat→Prop,PS w O O B st∧(∀b,O b→¬H b∧b<w.heap.size)∧Inv st∧st.packed.length≤300000*c∧ZO w∧yU H w0 w∧(∀b,b<6→H b)∧(∀b,H b→b<w.heap.size)
section
variable {w0 w w' :World}{H:Nat→Prop}{B c:Nat}{st st' :R.St}
theorem KS.inv (h:KS w0 H B st c w):Inv st:=by obtain⟨O,_,_,h,_⟩:=h;exact h
theorem KS.held (h:KS w0 H B st c w):yU H w0 w:=by obtain⟨O,_,_,_,_,_,h,_⟩:=h;exact h
theorem KS.keptM (h:KS w0 H B st c w)(k:ze w w'):KS w0 H B st c w' :=by
 obtain⟨O,⟨bv,cv,LB,LCm,h1⟩,h2,h3,h4,h5,h6,h7,h8⟩:=h;exact⟨O,⟨bv,cv,LB,LCm,h1.keptM k⟩,fun b hb=>⟨(h2 b hb).1,j0b (h2 b hb).2 k.size⟩,h3,h4,h5.keptM k,h6.trans (k.h h8),h7,fun b hb=>j0b (h8 b hb) k.size⟩
theorem KS.re (h:KS w0 H B st c w)(T:Nat→Question→Nat)(d:Nat):KS w0 H B st c (Go.Proofs.YtolgebdmffcemaaGreatDoor.re w T d):=h.keptM ((ze.refl w).re T d)
theorem KS.mono (h:KS w0 H B st c w){c' :Nat}(hc:c≤c'):KS w0 H B st c' w:=by
 obtain⟨O,h1,h2,h3,h4,h5⟩:=h;exact⟨O,h1,h2,h3,by omega,h5⟩
theorem KS.anchor (h:KS w0 H B st c w)(k:ze w w'){H2:Nat→Prop}(h1:∀b,H2 b→H b∨w.heap.size≤b)(h2:∀b,H b→H2 b)(h3:∀b,H2 b→b<w'.heap.size):KS w' H2 B st c w' :=by
 obtain⟨O,g1,g2,g3,g4,g5,g6,g7,g8⟩:=h.keptM k;obtain⟨O0,⟨bv,cv,LB,LCm,k1⟩,k2,k3,k4,k5,k6,k7,k8⟩:=h;exact⟨O0,⟨bv,cv,LB,LCm,k1.keptM k⟩,fun b hb=>⟨fun e=>by
  have hk:=k2 b hb;rcases h1 b e with e|e
  ·exact hk.1 e
  ·omega,j0b (k2 b hb).2 k.size⟩,k3,k4,g5,yU.refl _ _,fun b hb=>h2 b (k7 b hb),h3⟩
theorem Ov {O:Nat→Prop}(h2:∀b,O b→¬H b∧b<w.heap.size)(hG:ZO w)(hb:yU H w0 w)(h6:∀b,b<6→H b)(h8:∀b,H b→b<w.heap.size)(h:ZD w w' O O B st')(hi:Inv st')(hp:st'.packed.length≤300000*c):KS w0 H B st' c w' :=by
 obtain⟨O',p1,p2,p3⟩:=h;have hO:∀b,O' b→¬H b:=fun b hb he=>by
  rcases p3 b hb with h|h
  ·exact(h2 b h).1 he
  ·have:=h8 b he;omega
 obtain⟨bv,cv,LB,LCm,hx⟩:=p1;refine⟨O',PS.smaller ⟨bv,cv,LB,LCm,hx⟩ (fun b hb=> .inr hb) (fun b hb=>hb),fun b hb=>⟨hO b hb,hx.lt b hb⟩,hi,hp,?_,?_,h6,fun b hb=>j0b (h8 b hb) p2.size⟩
 ·have hk:zh O w (Go.Proofs.YtolgebdmffcemaaGreatDoor.re w' w.tape w'.drawn):=⟨p2.os,rfl,p2.output,p2.size,p2.block⟩
  have:=(hG.kept hk (fun b hb=>by
   apply Nat.le_of_not_lt;intro e;exact(h2 b hb).1 (h6 b e))).re w'.tape w'.drawn
  exact this
 ·exact hb.trans ⟨p2.os,p2.output,p2.size,fun k hk=>p2.block k (h8 k hk) (fun e=>(h2 k e).1 hk)⟩
theorem KS.six {O:Nat→Prop}(h2:∀b,O b→¬H b∧b<w.heap.size)(h6:∀b,b<6→H b):∀b,O b→6≤b:=fun b hb=>Nat.le_of_not_lt fun e=>(h2 b hb).1 (h6 b e)
theorem KS.call (h:KS w0 H B st c w){f:FuncId}{args:Array Value}{v:Value}(a0 :Inv st')(a1 :st'.packed.length≤st.packed.length+300000)
  (hc:∀O:Nat→Prop,PS w O O B st→(∀b,O b→b<w.heap.size)→(∀b,O b→6≤b)→Inv st→ZO w→st.packed.length≤300000*c→Calls Tryz.prog f args w fun e w' =>e= .returned v∧zU w w' O O B st'):
  Calls Tryz.prog f args w fun e w' =>e= .returned v∧KS w0 H B st' (c+1) w' :=by
 obtain⟨O,h1,h2,h3,h4,h5,h6,h7,h8⟩:=h;refine(hc O h1 (fun b hb=>(h2 b hb).2) (KS.six h2 h7) h3 h5 h4).mono fun e w' ⟨e1,e2⟩=>⟨e1,Ov h2 h5 h6 h7 h8 (ZD.of (ze.refl w) e2) a0 (by omega)⟩
theorem KS.look (h:KS w0 H B st c w){f:FuncId}{args:Array Value}{v:Value}
  (hc:∀O:Nat→Prop,PS w O O B st→Inv st→ZO w→Calls Tryz.prog f args w fun e w' =>e= .returned v∧Below w.heap.size w w'):
  Calls Tryz.prog f args w fun e w' =>e= .returned v∧KS w0 H B st c w' :=by
 obtain⟨O,h1,h2,h3,h4,h5,h6⟩:=id h;exact(hc O h1 h3 h5).mono fun e w' ⟨e1,e2⟩=>⟨e1,h.keptM (ze.of_below e2)⟩
def FH (w0:World)(H:Nat→Prop)(B c:Nat)(r:(Int×Int)×R.St)(v:Value)(w' :World):Prop:=v= .tuple #[.int .i64 r.1.1,.int .i64 r.1.2]∧KS w0 H B r.2 c w'
theorem KS.join (h:KS w0 H B st c w)(hc:c≤300000)(a0 fr:List UInt8)(a1:a0.length≤1000):
  zS Tryz.prog 19 #[.pointer (some ⟨B,0,none⟩),.string ⟨a0.toArray⟩,.string ⟨fr.toArray⟩] w (FH w0 H B (c+1) (R.joinB st a0 fr)):=by
 obtain⟨O,h1,h2,h3,h4,h5,h6,h7,h8⟩:=h;refine(FU h3 h1 (fun b hb=>(h2 b hb).2) h5 (KS.six h2 h7) (by omega) a0 fr a1).mono fun v w' ⟨e1,e2⟩=>⟨e1,Ov h2 h5 h6 h7 h8 e2 (gB h3 a0 fr) ?_⟩
 have:=JA h3 a0 fr;omega
def FJ (w0:World)(H:Nat→Prop)(B c:Nat)(st:R.St)(r:List UInt8×Int)(v:Value)(w' :World):Prop:=v= .tuple #[.string ⟨r.1.toArray⟩,.int .i64 r.2]∧KS w0 H B st c w'
theorem KS.base (h:KS w0 H B st c w)(a b:Int):
  zS Tryz.prog 35 #[.pointer (some ⟨B,0,none⟩),.int .i64 a,.int .i64 b] w (FJ w0 H B c st (R.baseAt st a b)):=by
 obtain⟨O,h1,h2,h3,h4,h5,h6⟩:=id h;exact(FW h3 h1 (fun b hb=>(h2 b hb).2) h5 a b).mono fun v w' ⟨e1,e2⟩=>⟨e1,h.keptM e2⟩
end
section
variable {w0 w:World}{H:Nat→Prop}{B c:Nat}{st:R.St}
theorem KS.branch (h:KS w0 H B st c w)(hc:c≤300000)(name:List UInt8)(a0:name.length≤maxLen){r:Int}(hr:(R.made st name [] false).1=r):
  Calls Tryz.prog 26 #[.pointer (some ⟨B,0,none⟩),.string ⟨name.toArray⟩] w fun e w' =>e= .returned (.int .i64 r)∧KS w0 H B (R.made st name [] false).2 (c+1) w' :=by
 subst hr;exact h.call (uL h.inv _ _ _) (by have:=kg st name [] false;omega) fun O h1 h2 h3 h4 h5 h6=>f8 B st name w O O h1 h4 a0 (by omega)
theorem KS.fork (h:KS w0 H B st c w)(hc:c≤300000)(name fr:List UInt8)(a0:name.length≤maxLen){r:Int}(hr:(R.made st name fr true).1=r):
  Calls Tryz.prog 29 #[.pointer (some ⟨B,0,none⟩),.string ⟨name.toArray⟩,.string ⟨fr.toArray⟩] w fun e w' =>e= .returned (.int .i64 r)∧KS w0 H B (R.made st name fr true).2 (c+1) w' :=by
 subst hr;exact h.call (uL h.inv _ _ _) (by have:=kg st name fr true;omega) fun O h1 h2 h3 h4 h5 h6=>cz B st name fr w O O h1 h4 a0 (by omega)
theorem KS.add (h:KS w0 H B st c w)(a0 path:List UInt8)(n:Int)(a3:path.length≤maxLen)(a1:n≤9223372036854775807)(a2: -9223372036854775808≤n){r:Int}(hr:(R.change st 35 a0 path n []).1=r):
  Calls Tryz.prog 27 #[.pointer (some ⟨B,0,none⟩),.string ⟨a0.toArray⟩,.string ⟨path.toArray⟩,.int .i64 n] w fun e w' =>e= .returned (.int .i64 r)∧KS w0 H B (R.change st 35 a0 path n []).2 (c+1) w' :=by
 subst hr;exact h.call (QN h.inv _ _ _ _ _ (by simp)) (by rw[xQ];omega) fun O h1 h2 h3 h4 h5 h6=>C3 B st a0 path n w O O h1 h2 h4 h5 a3 a1 a2
theorem KS.note (h:KS w0 H B st c w)(a0 path text:List UInt8)(a1:path.length≤maxLen)(a2:text.length≤maxLen){r:Int}(hr:(R.change st 61 a0 path 0 text).1=r):
  Calls Tryz.prog 41 #[.pointer (some ⟨B,0,none⟩),.string ⟨a0.toArray⟩,.string ⟨path.toArray⟩,.string ⟨text.toArray⟩] w fun e w' =>e= .returned (.int .i64 r)∧KS w0 H B (R.change st 61 a0 path 0 text).2 (c+1) w' :=by
 subst hr;exact h.call (QN h.inv _ _ _ _ _ (by simp)) (by rw[xQ];omega) fun O h1 h2 h3 h4 h5 h6=>cy B st a0 path text w O O h1 h2 h4 h5 a1 a2
theorem KS.put (h:KS w0 H B st c w)(a0 path text:List UInt8)(a1:path.length≤maxLen)(a2:text.length≤maxLen){r:Int}(hr:(R.change st 42 a0 path 0 text).1=r):
  Calls Tryz.prog 31 #[.pointer (some ⟨B,0,none⟩),.string ⟨a0.toArray⟩,.string ⟨path.toArray⟩,.string ⟨text.toArray⟩] w fun e w' =>e= .returned (.int .i64 r)∧KS w0 H B (R.change st 42 a0 path 0 text).2 (c+1) w' :=by
 subst hr;exact h.call (QN h.inv _ _ _ _ _ (by simp)) (by rw[xQ];omega) fun O h1 h2 h3 h4 h5 h6=>C2 B st a0 path text w O O h1 h2 h4 h5 a1 a2
theorem KS.commit (h:KS w0 H B st c w)(hc:c≤300000)(name:List UInt8){r:Int×Int}(hr:(R.commit st name).1=r):
  Calls Tryz.prog 28 #[.pointer (some ⟨B,0,none⟩),.string ⟨name.toArray⟩] w fun e w' =>e= .returned (.tuple #[.int .i64 r.1,.int .i64 r.2])∧KS w0 H B (R.commit st name).2 (c+1) w' :=by
 subst hr;exact h.call (oX h.inv _) (jh h.inv name) fun O h1 h2 h3 h4 h5 h6=>f6 B st name w O O h1 h4 h2 (by omega) h5 h3
theorem KS.show_ (h:KS w0 H B st c w)(name:List UInt8){r:List UInt8×Int}(hr:R.shown st name=r):
  Calls Tryz.prog 20 #[.pointer (some ⟨B,0,none⟩),.string ⟨name.toArray⟩] w fun e w' =>e= .returned (.tuple #[.string ⟨r.1.toArray⟩,.int .i64 r.2])∧KS w0 H B st c w' :=by
 subst hr;exact h.look fun O h1 h4 h5=>cw B st name w O O h1 h4 h5
end
def aw0:R.St:={cms:=[],brs:=[],packed:=[]}
def aw1:R.St:=(R.made aw0 [97] [] false).2
def aw2:R.St:=(R.change aw1 35 [97] [120,47,110] 5 []).2
def aw3:R.St:=(R.change aw2 61 [97] [120] 0 [104,105]).2
def aw4:R.St:=(R.commit aw3 [97]).2
def aw5:R.St:=(R.commit aw4 [97]).2
def aw6:R.St:=(R.made aw5 [98] [97] true).2
def aw7:R.St:=(R.change aw6 35 [98] [120,47,110] 2 []).2
def aw8:R.St:=(R.change aw7 42 [98] [115] 0 [112]).2
def aw9:R.St:=(R.commit aw8 [98]).2
def awa:R.St:=(R.change aw9 35 [97] [120,47,110] (-1) []).2
def awb:R.St:=(R.change awa 42 [97] [115] 0 [113]).2
def awc:R.St:=(R.commit awb [97]).2
def awd:R.St:=(R.joinB awc [97] [98]).2
def awe:R.St:=(R.joinB awd [98] [97]).2
theorem ae1:(R.made aw0 [97] [] false).1=0:=by decide+kernel
theorem ae2:(R.change aw1 35 [97] [120,47,110] 5 []).1=0:=by decide+kernel
theorem ae3:R.shown aw2 [97]=([120,47,110,32,35,53,10],0):=by decide+kernel
theorem ae4:(R.change aw2 61 [97] [120] 0 [104,105]).1=7:=by decide+kernel
theorem ae5:(R.commit aw3 [97]).1=(1,0):=by decide+kernel
theorem ae6:(R.commit aw4 [97]).1=(0,9):=by decide+kernel
theorem ae7:(R.made aw5 [98] [97] true).1=0:=by decide+kernel
theorem ae8:(R.change aw6 35 [98] [120,47,110] 2 []).1=0:=by decide+kernel
theorem ae9:(R.change aw7 42 [98] [115] 0 [112]).1=0:=by decide+kernel
theorem aea:(R.commit aw8 [98]).1=(2,0):=by decide+kernel
theorem aeb:(R.change aw9 35 [97] [120,47,110] (-1) []).1=0:=by decide+kernel
theorem aec:(R.change awa 42 [97] [115] 0 [113]).1=0:=by decide+kernel
theorem aed:(R.commit awb [97]).1=(3,0):=by decide+kernel
theorem aee:(R.joinB awc [97] [98]).1=(4,0):=by decide+kernel
theorem aef:R.shown awd [97]=([115,32,42,112,59,113,10,120,47,110,32,35,54,10],0):=by decide+kernel
theorem aeg:(R.joinB awd [98] [97]).1=(4,0):=by decide+kernel
theorem aeh:R.baseAt awe 2 3=([120,47,110,32,35,53,10],0):=by decide+kernel
theorem KS.new {w0 w:World}{H:Nat→Prop}(hG:ZO w)(hb:yU H w0 w)(h6:∀b,b<6→H b)(h8:∀b,H b→b<w.heap.size):KS w0 H w.heap.size aw0 0 (w.alloc (.cells #[.slice none 0 0,.slice none 0 0,.slice none 0 0] 102)):=by
 have a0:=(j0g w.heap.size w).alloc (j0a _) (.cells #[.slice none 0 0,.slice none 0 0,.slice none 0 0] 102);refine⟨fun b=>b=w.heap.size,C9 (heap_alloc_new w _) rfl,fun b hb=>⟨fun e=>by have:=h8 b e;omega,by simp;omega⟩,Inv.no,by simp[aw0],hG.below a0,hb.trans ((ze.of_below a0).h h8),h6,fun b hb=>by have:=h8 b hb;simp;omega⟩
def AwR (w:World)(v:Value)(w' :World):Prop:=v= .bool true∧ze w w'
theorem KS.kept {w:World}{B c:Nat}{st:R.St}{w' :World}(h:KS w (fun b=>b<w.heap.size) B st c w'):ze w w' :=h.held.m fun _ hb=>hb
theorem KS.joinE {w0 w:World}{H:Nat→Prop}{B c:Nat}{st:R.St}(h:KS w0 H B st c w)(hc:c≤300000)(a0 fr:List UInt8)(a1:a0.length≤1000){r:Int×Int}(hr:(R.joinB st a0 fr).1=r):
  zS Tryz.prog 19 #[.pointer (some ⟨B,0,none⟩),.string ⟨a0.toArray⟩,.string ⟨fr.toArray⟩] w (FH w0 H B (c+1) (r,(R.joinB st a0 fr).2)):=by
 subst hr;exact h.join hc a0 fr a1
theorem KS.baseE {w0 w:World}{H:Nat→Prop}{B c:Nat}{st:R.St}(h:KS w0 H B st c w)(a b:Int){r:List UInt8×Int}(hr:R.baseAt st a b=r):
  zS Tryz.prog 35 #[.pointer (some ⟨B,0,none⟩),.int .i64 a,.int .i64 b] w (FJ w0 H B c st r):=by
 subst hr;exact h.base a b
section
theorem Fa {w:World}(hG:ZO w)(h6:6≤w.heap.size):zS Tryz.prog 23 #[] w (AwR w):=by
 have hP:=Xk;refine zX hP Tryz.func23 rfl ?_;have a1:ReC (Z3 Tryz.prog Tryz.f23 (AwR w)):=ReC.body fun v w' T d ⟨h1,h2⟩=>⟨h1,h2.re T d⟩
 simp only[Tryz.ntmps23,List.size_toArray,List.length_cons,List.length_nil,Nat.reduceAdd,Nat.reduceSub,Array.replicate_succ,Array.replicate_zero,List.push_toArray,List.append_toArray,List.nil_append,List.cons_append];refine z9 hP a1 fun T d=> ?_
 have HG:=z6 (hG.keptM ((ze.refl w).re T d));have HB:=z6 ((ze.refl w).re T d);have a2:w.heap.size≤(re w T d).heap.size:=j0a _;generalize re w T d=W at*;go_wp2;refine z9 hP a1 fun T d=> ?_
 have HK:=HB.out.re T d;have HS:=z6 (KS.new (w:=re W T d) (H:=fun b=>b<w.heap.size) (hG.keptM HK) (HK.h fun _ hb=>hb) (fun b hb=>by omega) (fun b hb=>j0b hb a2));clear HK;clear HG HB a2;generalize re W T d=W1 at*;go_wp2_with fail
 refine(FC W1).mono ?_;rintro e W2 ⟨rfl,rfl⟩;go_wp2;generalize W1.alloc (.cells #[.slice none 0 0,.slice none 0 0,.slice none 0 0] 102)=V0 at*;generalize W1.heap.size=B at*;refine z9 hP a1 fun T d=> ?_
 have a0 :=z6 (HS.out.re T d);clear HS;generalize re V0 T d=U0 at*;go_wp2;have HS:=z6 a0.out;clear a0;generalize hV:U0=V1 at*;clear hV;refine z9 hP a1 fun T d=> ?_
 have a0 :=z6 (HS.out.re T d);clear HS;generalize re V1 T d=U1 at*;go_wp2_with fail
 refine(a0.out.branch (by omega) [97] (by unfold maxLen;simp) ae1).mono ?_;rintro e V2 ⟨rfl,hs⟩;have HS:=z6 hs;clear a0 hs;go_wp2;refine z9 hP a1 fun T d=> ?_
 have a0 :=z6 (HS.out.re T d);clear HS;generalize re V2 T d=U2 at*;go_wp2_with fail
 refine(a0.out.add [97] [120,47,110] 5 (by unfold maxLen;simp) (by omega) (by omega) ae2).mono ?_;rintro e V3 ⟨rfl,hs⟩;have HS:=z6 hs;clear a0 hs;go_wp2;refine z9 hP a1 fun T d=> ?_
 have a0 :=z6 (HS.out.re T d);clear HS;generalize re V3 T d=U3 at*;go_wp2_with fail
 refine(a0.out.show_ [97] ae3).mono ?_;rintro e V4 ⟨rfl,hs⟩;have HS:=z6 hs;clear a0 hs;go_wp2;refine z9 hP a1 fun T d=> ?_
 have a0 :=z6 (HS.out.re T d);clear HS;generalize re V4 T d=U4 at*;go_wp2_with fail
 refine(a0.out.note [97] [120] [104,105] (by unfold maxLen;simp) (by unfold maxLen;simp) ae4).mono ?_;rintro e V5 ⟨rfl,hs⟩;have HS:=z6 hs;clear a0 hs;go_wp2;refine z9 hP a1 fun T d=> ?_
 have a0 :=z6 (HS.out.re T d);clear HS;generalize re V5 T d=U5 at*;go_wp2_with fail
 refine(a0.out.commit (by omega) [97] ae5).mono ?_;rintro e V6 ⟨rfl,hs⟩;have HS:=z6 hs;clear a0 hs;go_wp2;refine z9 hP a1 fun T d=> ?_
 have a0 :=z6 (HS.out.re T d);clear HS;generalize re V6 T d=U6 at*;go_wp2_with fail
 refine(a0.out.commit (by omega) [97] ae6).mono ?_;rintro e V7 ⟨rfl,hs⟩;have HS:=z6 hs;clear a0 hs;go_wp2;refine z9 hP a1 fun T d=> ?_
 have a0 :=z6 (HS.out.re T d);clear HS;generalize re V7 T d=U7 at*;go_wp2;have HS:=z6 a0.out;clear a0;generalize hV:U7=V8 at*;clear hV;refine z9 hP a1 fun T d=> ?_
 have a0 :=z6 (HS.out.re T d);clear HS;generalize re V8 T d=U8 at*;go_wp2_with fail
 refine(a0.out.fork (by omega) [98] [97] (by unfold maxLen;simp) ae7).mono ?_;rintro e V9 ⟨rfl,hs⟩;have HS:=z6 hs;clear a0 hs;go_wp2;refine z9 hP a1 fun T d=> ?_
 have a0 :=z6 (HS.out.re T d);clear HS;generalize re V9 T d=U9 at*;go_wp2_with fail
 refine(a0.out.add [98] [120,47,110] 2 (by unfold maxLen;simp) (by omega) (by omega) ae8).mono ?_;rintro e a3 ⟨rfl,hs⟩;have HS:=z6 hs;clear a0 hs;go_wp2;refine z9 hP a1 fun T d=> ?_
 have a0 :=z6 (HS.out.re T d);clear HS;generalize re a3 T d=U10 at*;go_wp2_with fail
 refine(a0.out.put [98] [115] [112] (by unfold maxLen;simp) (by unfold maxLen;simp) ae9).mono ?_;rintro e a4 ⟨rfl,hs⟩;have HS:=z6 hs;clear a0 hs;go_wp2;refine z9 hP a1 fun T d=> ?_
 have a0 :=z6 (HS.out.re T d);clear HS;generalize re a4 T d=U11 at*;go_wp2_with fail
 refine(a0.out.commit (by omega) [98] aea).mono ?_;rintro e a5 ⟨rfl,hs⟩;have HS:=z6 hs;clear a0 hs;go_wp2;refine z9 hP a1 fun T d=> ?_
 have a0 :=z6 (HS.out.re T d);clear HS;generalize re a5 T d=U12 at*;go_wp2_with fail
 refine(a0.out.add [97] [120,47,110] (-1) (by unfold maxLen;simp) (by omega) (by omega) aeb).mono ?_;rintro e a6 ⟨rfl,hs⟩;have HS:=z6 hs;clear a0 hs;go_wp2;refine z9 hP a1 fun T d=> ?_
 have a0 :=z6 (HS.out.re T d);clear HS;generalize re a6 T d=U13 at*;go_wp2_with fail
 refine(a0.out.put [97] [115] [113] (by unfold maxLen;simp) (by unfold maxLen;simp) aec).mono ?_;rintro e a7 ⟨rfl,hs⟩;have HS:=z6 hs;clear a0 hs;go_wp2;refine z9 hP a1 fun T d=> ?_
 have a0 :=z6 (HS.out.re T d);clear HS;generalize re a7 T d=U14 at*;go_wp2_with fail
 refine(a0.out.commit (by omega) [97] aed).mono ?_;rintro e a8 ⟨rfl,hs⟩;have HS:=z6 hs;clear a0 hs;go_wp2;refine z9 hP a1 fun T d=> ?_
 have a0 :=z6 (HS.out.re T d);clear HS;generalize re a8 T d=U15 at*;go_wp2;have HS:=z6 a0.out;clear a0;generalize hV:U15=V16 at*;clear hV;refine zx hP ?_;refine Z7 hP 1 a1.thenT rfl rfl rfl Tryz.func19 (by decide) rfl fun T d=> ?_
 have a0 :=z6 (HS.out.re T d);clear HS;generalize re V16 T d=U16 at*;go_wp2;refine⟨_,_,by simp[Act.eval],a0.out.joinE (by omega) [97] [98] (by simp) aee,?_⟩;rintro v V' ⟨rfl,hs⟩ T d;have HS:=z6 (hs.re T d);clear a0 hs;generalize re V' T d=V17 at*;clear V';go_wp2;refine z9 hP a1 fun T d=> ?_
 have a0 :=z6 (HS.out.re T d);clear HS;generalize re V17 T d=U17 at*;go_wp2_with fail
 refine(a0.out.show_ [97] aef).mono ?_;rintro e a9 ⟨rfl,hs⟩;have HS:=z6 hs;clear a0 hs;go_wp2;refine zx hP ?_;refine Z7 hP 1 a1.thenT rfl rfl rfl Tryz.func19 (by decide) rfl fun T d=> ?_
 have a0 :=z6 (HS.out.re T d);clear HS;generalize re a9 T d=U18 at*;go_wp2;refine⟨_,_,by simp[Act.eval],a0.out.joinE (by omega) [98] [97] (by simp) aeg,?_⟩;rintro v V' ⟨rfl,hs⟩ T d;have HS:=z6 (hs.re T d);clear a0 hs;generalize re V' T d=V19 at*;clear V';go_wp2;refine zx hP ?_;refine Z7 hP 1 a1.thenT rfl rfl rfl Tryz.func35 (by decide) rfl fun T d=> ?_
 have a0 :=z6 (HS.out.re T d);clear HS;generalize re V19 T d=U19 at*;go_wp2;refine⟨_,_,by simp[Act.eval],a0.out.baseE 2 3 aeh,?_⟩;rintro v V' ⟨rfl,hs⟩ T d;have HS:=z6 (hs.re T d);clear a0 hs;generalize re V' T d=V20 at*;clear V';go_wp2;refine z9 hP a1 fun T d=> ?_
 have a0 :=z6 (HS.out.re T d);clear HS;generalize re V20 T d=U20 at*;go_wp2;refine qG hP ?_;refine⟨rfl,_,fun W=> ?_,⟨rfl,a0.out.kept⟩⟩;simp[results,Tryz.results23,go_sem]
end
def bgL (c:Nat→Bool)(k:Nat):List (List UInt8):=((List.range k).filter c).map R.bgItem
theorem OC (k:Nat)(hk:k<10):(⟨#[48,49,50,51,52,53,54,55,56,57]⟩:ByteArray).extract k (k+1)=⟨[UInt8.ofNat (48+k)].toArray⟩:=by
 rcases(by omega:k=0∨k=1∨k=2∨k=3∨k=4∨k=5∨k=6∨k=7∨k=8∨k=9)with rfl|rfl|rfl|rfl|rfl|rfl|rfl|rfl|rfl|rfl<;>rfl
theorem Kg (a b:List UInt8):(⟨a.toArray⟩++⟨b.toArray⟩:ByteArray)=⟨(a++b).toArray⟩:=by
 apply ByteArray.ext;simp
theorem GL (m:Nat)(hm:m≤1000000000)(w:World):
  Calls Tryz.prog 30 #[.int .i64 m] w fun e w' =>e= .returned (.string ⟨(Lib.decDigits m).toArray⟩)∧w' =w:=by
 go_enter Tryz.func30,Tryz.ntmps30;go_wp2;go_loop [0,3] (fun n s=>∃(k:Nat) (r:List UInt8),r.length+k≤m∧n= .int .i64 k∧s= .string ⟨r.toArray⟩∧Lib.decDigits k++r=Lib.decDigits m) (fun n _=>(intOf n).toNat)
 case atStart=>exact⟨m,[],by simp,rfl,rfl,by simp⟩
 case round=>
  obtain⟨k,r,hk,rfl,rfl,hd⟩:=hrel;have HD:=z8 hd;clear hd;by_cases a1:9<k
  ·have HS:=z8 (YY k (by omega))
   have a0:k % 10<10:=Nat.mod_lt _ (by decide);have HX:=z8 (OC (k % 10) a0);go_wp2;refine⟨⟨k/10,UInt8.ofNat (48+k % 10)::r,by rw[List.length_cons];omega,by simp,?_,?_⟩,by simp[intOf];omega⟩
   ·rw[HX.out]
    exact congrArg Value.string (Kg [UInt8.ofNat (48+k % 10)] r)
   ·rw[←HD.out,HS.out,List.append_assoc];rfl
  ·have HS:=z8 (Lib.decDigits_one (i:=k) (by omega))
   have HX:=z8 (OC k (by omega));go_wp2;go_ret;refine⟨xz ?_,rfl⟩;rw[HX.out];refine((Kg [UInt8.ofNat (48+k)] r).trans ?_).symm;rw[←HD.out,HS.out]
theorem gv (n:Int)(h1:n≤1000000000)(h2: -1000000000≤n)(w:World):
  Calls Tryz.prog 30 #[.int .i64 n] w fun e w' =>e= .returned (.string ⟨(Lib.itoa n).toArray⟩)∧w' =w:=by
 by_cases hn:n<0
 ·have HI:Hid (Lib.itoa n=45::Lib.decDigits (-n).toNat):=by
   show _=_;unfold Lib.itoa;rw[if_pos hn,show n.natAbs=(-n).toNat by omega]
  have hc:=GL (-n).toNat (by omega) w;rw[show(((-n).toNat:Nat):Int)= -n by omega]at hc;have HC:=z8 hc;clear hc;have hl:(Lib.decDigits (-n).toNat).length≤100:=by
   have:=Lib.itoa_length_le n (by omega) (by omega);rw[HI.out,List.length_cons]at this;omega
  generalize hg:Lib.decDigits (-n).toNat=ds at*;clear hg;go_enter Tryz.func30,Tryz.ntmps30;go_wp2_with fail
  refine HC.out.mono ?_;rintro e w' ⟨rfl,rfl⟩;go_wp2;go_ret;refine⟨xz ?_,rfl⟩;rw[HI.out];exact(Kg [45] ds).symm
 ·have e:Lib.itoa n=Lib.decDigits n.toNat:=by
   unfold Lib.itoa;rw[if_neg hn]
  rw[e];have hc:=GL n.toNat (by omega) w;rw[show((n.toNat:Nat):Int)=n by omega]at hc;exact hc
def Fr:Obj:= .cells #[.string ⟨#[97]⟩,.string ⟨#[98]⟩,.string ⟨#[99]⟩] 9
def cD:Obj:= .cells #[.string ⟨#[110]⟩,.string ⟨#[109]⟩,.string ⟨#[115]⟩,.string ⟨#[116]⟩,.string ⟨#[120,47,110]⟩,.string ⟨#[120,47,115]⟩,.string ⟨#[120,47,121,47,122]⟩,.string ⟨#[120]⟩,.string ⟨#[113,47,114]⟩,.string ⟨#[110,47,111]⟩] 9
def cC:Obj:= .cells #[.string ⟨#[112]⟩,.string ⟨#[113]⟩,.string ⟨#[114]⟩,.string ⟨#[115,111,109,101,32,116,101,120,116]⟩,.string ⟨#[122]⟩] 9
section
def yB (l:List R.Raw):List Value:=l.flatMap fun a=> [.int .i64 a.kind,.int .i64 a.br,.int .i64 a.path,.int .i64 a.n]
theorem VF:∀(l:List R.Raw) (i:Nat) (h:i<l.length),(yB l)[i*4]? =some (.int .i64 l[i].kind)∧(yB l)[i*4+1]? =some (.int .i64 l[i].br)∧(yB l)[i*4+2]? =some (.int .i64 l[i].path)∧(yB l)[i*4+3]? =some (.int .i64 l[i].n)
 |x::r,0,_=>⟨rfl,rfl,rfl,rfl⟩
 |x::r,i+1,h=>by
  have ih:=VF r i (by simpa using h);have e:∀j,(yB (x::r))[(i+1)*4+j]? =(yB r)[i*4+j]? :=fun j=>by
   show([.int .i64 x.kind,.int .i64 x.br,.int .i64 x.path,.int .i64 x.n]++yB r)[(i+1)*4+j]? =_;rw[List.getElem?_append_right (by simp;omega)];congr 1
   simp;omega
  have e0:=e 0;rw[Nat.add_zero,Nat.add_zero]at e0;rw[e0,e 1,e 2,e 3];exact ih
def okN (n:Int):Prop:= -9223372036854775808≤n∧n≤9223372036854775807
structure okR (a:R.Raw):Prop where
 k:okN a.kind
 b:okN a.br
 p:okN a.path
 n:okN a.n
theorem vf (c:Int)(hc:okN c)(n:Int)(h0:0<n)(hn:n≤9223372036854775807):∃f:Nat,(f:Int)<n∧∀W:World,Calls Tryz.prog 25 #[.int .i64 c,.int .i64 n] W fun e w' =>e= .returned (.int .i64 f)∧w' =W:=by
 have hp:=Gr c n h0;refine⟨(Q4 c n).toNat,by omega,fun W=> ?_⟩;have:=cn c n W hc.1 hc.2 h0 hn;rw[show(((Q4 c n).toNat:Nat):Int)=Q4 c n by omega];exact this
theorem Cg:(R.made aw0 [97] [] false).1=0:=by decide+kernel
theorem KS.hsub {w0 w:World}{H:Nat→Prop}{B c:Nat}{st:R.St}(h:KS w0 H B st c w):∀b,H b→b<w.heap.size:=by
 obtain⟨O,_,_,_,_,_,_,_,h⟩:=h;exact h
theorem KC:∀l:List Value,l=(List.range l.length).map fun i=>l.getD i undef
 |[]=>rfl
 |x::r=>by
  have ih:=KC r;rw[List.length_cons,List.range_succ_eq_map,List.map_cons,List.map_map];simp only[List.getD_cons_zero,Function.comp_def,List.getD_cons_succ];rw[←ih]
theorem xG {a:Act}(hd:a.defers=[])(hs:a.tmps.size=204):∃f:Nat→Value,(∀i v,a.tmps[i]? =some v→f i=v)∧a=⟨#[f 0,f 1,f 2,f 3,f 4,f 5,f 6,f 7,f 8,f 9,f 10,f 11,f 12,f 13,f 14,f 15,f 16,f 17,f 18,f 19,f 20,f 21,f 22,f 23,f 24,f 25,f 26,f 27,f 28,f 29,f 30,f 31,f 32,f 33,f 34,f 35,f 36,f 37,f 38,f 39,f 40,f 41,f 42,f 43,f 44,f 45,f 46,f 47,f 48,f 49,f 50,f 51,f 52,f 53,f 54,f 55,f 56,f 57,f 58,f 59,f 60,f 61,f 62,f 63,f 64,f 65,f 66,f 67,f 68,f 69,f 70,f 71,f 72,f 73,f 74,f 75,f 76,f 77,f 78,f 79,f 80,f 81,f 82,f 83,f 84,f 85,f 86,f 87,f 88,f 89,f 90,f 91,f 92,f 93,f 94,f 95,f 96,f 97,f 98,f 99,f 100,f 101,f 102,f 103,f 104,f 105,f 106,f 107,f 108,f 109,f 110,f 111,f 112,f 113,f 114,f 115,f 116,f 117,f 118,f 119,f 120,f 121,f 122,f 123,f 124,f 125,f 126,f 127,f 128,f 129,f 130,f 131,f 132,f 133,f 134,f 135,f 136,f 137,f 138,f 139,f 140,f 141,f 142,f 143,f 144,f 145,f 146,f 147,f 148,f 149,f 150,f 151,f 152,f 153,f 154,f 155,f 156,f 157,f 158,f 159,f 160,f 161,f 162,f 163,f 164,f 165,f 166,f 167,f 168,f 169,f 170,f 171,f 172,f 173,f 174,f 175,f 176,f 177,f 178,f 179,f 180,f 181,f 182,f 183,f 184,f 185,f 186,f 187,f 188,f 189,f 190,f 191,f 192,f 193,f 194,f 195,f 196,f 197,f 198,f 199,f 200,f 201,f 202,f 203],[]⟩:=by
 obtain⟨⟨l⟩,ds⟩:=a;simp only at hd;subst hd;have hl:l.length=204:=hs;refine⟨fun i=>l.getD i undef,fun i v hv=> ?_,?_⟩
 ·have:l[i]? =some v:=by simpa using hv
  simp[List.getD_eq_getElem?_getD,this]
 ·have:=KC l
  rw[hl]at this;exact congrArg (fun x:List Value=>(⟨⟨x⟩,[]⟩:Act)) this
def SmQ (oa:Option Addr)(on oc B it:Nat)(A0:World)(HH:Nat→Prop)(s0:Int)(e:Exit)(a:Act)(wr:World):Prop:=
 e= .normal∧a.defers=[]∧a.tmps.size=204∧a.tmps[2]? =some (.slice oa on oc)∧a.tmps[8]? =some (.pointer (some ⟨B,0,none⟩))∧a.tmps[14]? =some (.slice (some ⟨it,0,none⟩) 5 5)∧∃(sum:Int) (na:Nat) (st:R.St),na≤20∧a.tmps[9]? =some (.int .i64 sum)∧R.SumA s0 sum na 0 21 st∧KS A0 HH B st 48 wr
theorem SmQ.re {oa:Option Addr}{on oc B it:Nat}{A0:World}{HH:Nat→Prop}{s0:Int}:ReC (SmQ oa on oc B it A0 HH s0):=fun _ _ _ T d ⟨h0,h1,h2,h3,h4,h5,a0,na,st,h6,h7,h8,h9⟩=>⟨h0,h1,h2,h3,h4,h5,a0,na,st,h6,h7,h8,h9.re T d⟩
def SnQ (w:World)(B:Nat)(s0 sum:Int)(e:Exit)(a:Act)(wr:World):Prop:=
 e= .normal∧a.defers=[]∧a.tmps.size=204∧a.tmps[8]? =some (.pointer (some ⟨B,0,none⟩))∧a.tmps[9]? =some (.int .i64 sum)∧∃(st:R.St) (w1:World) (HX:Nat→Prop),R.SumB s0 sum [] 30 st∧KS w1 HX B st 58 wr∧(∀b,b<w.heap.size→HX b)∧ze w w1
theorem SnQ.re {w:World}{B:Nat}{s0 a0:Int}:ReC (SnQ w B s0 a0):=fun _ _ _ T d ⟨h0,h1,h2,h3,h4,st,w1,HX,h5,h6,h7⟩=>⟨h0,h1,h2,h3,h4,st,w1,HX,h5,h6.re T d,h7⟩
def O8 (w1:World)(HX:Nat→Prop)(la:Option Addr)(lc:Nat)(L:List Nat):Prop:=0<L.length→∃g,la=some ⟨g,0,none⟩∧L.length≤lc∧lc≤9223372036854775807∧HX g∧∀j (h:j<L.length),w1.cell? ⟨g,j,none⟩=some (.string ⟨(R.bgItem L[j]).toArray⟩)
def SnI (w:World)(oa:Option Addr)(on oc B:Nat)(s0 sum:Int)(a:Act)(wr:World):Prop:=
 (a.defers=[]∧a.tmps.size=204∧a.tmps[2]? =some (.slice oa on oc)∧a.tmps[8]? =some (.pointer (some ⟨B,0,none⟩))∧a.tmps[9]? =some (.int .i64 sum))∧
 ∃(i:Nat) (L:List Nat) (la:Option Addr) (lc:Nat) (st:R.St) (w1:World) (HX:Nat→Prop),i≤4∧i+L.length=4∧L.Nodup∧(∀j∈L,1≤j∧j<5)∧a.tmps[27]? =some (.int .i64 (i:Int))∧a.tmps[26]? =some (.slice la L.length lc)∧R.SumB s0 sum L (26+i) st∧KS w1 HX B st (54+i) wr∧(∀b,b<w.heap.size→HX b)∧ze w w1∧O8 w1 HX la lc L
theorem SnI.re {w:World}{oa:Option Addr}{on oc B:Nat}{s0 a0:Int}{a:Act}{wr:World}(h:SnI w oa on oc B s0 a0 a wr)(T:Nat→Question→Nat)(d:Nat):SnI w oa on oc B s0 a0 a (Go.Proofs.YtolgebdmffcemaaGreatDoor.re wr T d):=by
 obtain⟨h0,i,L,la,lc,st,w1,HX,h1,h2,h3,h4,h5,h6,h7,h8,h9⟩:=h;exact⟨h0,i,L,la,lc,st,w1,HX,h1,h2,h3,h4,h5,h6,h7,h8.re T d,h9⟩
def gU (a:Act):Nat:=(intOf (a.tmps.getD 27 undef)).toNat
def SkQ (oa:Option Addr)(on oc B i n:Nat)(sum:Int)(la:Option Addr)(lc:Nat)(w1:World)(HX:Nat→Prop)(st:R.St)(e:Exit)(a:Act)(wr:World):Prop:=
 e= .normal∧a.defers=[]∧a.tmps.size=204∧a.tmps[2]? =some (.slice oa on oc)∧a.tmps[8]? =some (.pointer (some ⟨B,0,none⟩))∧a.tmps[9]? =some (.int .i64 sum)∧a.tmps[26]? =some (.slice la n lc)∧a.tmps[27]? =some (.int .i64 (i:Int))∧KS w1 HX B st (54+i) wr∧∃k:Nat,k<n∧a.tmps[28]? =some (.int .i64 (k:Int))
theorem SkQ.re {oa:Option Addr}{on oc B i n:Nat}{a0:Int}{la:Option Addr}{lc:Nat}{w1:World}{HX:Nat→Prop}{st:R.St}:ReC (SkQ oa on oc B i n a0 la lc w1 HX st):=fun _ _ _ T d ⟨h0,h1,h2,h3,h4,h5,h6,h7,h8,h9⟩=>⟨h0,h1,h2,h3,h4,h5,h6,h7,h8.re T d,h9⟩
theorem FQ (ds:List UInt8):(110::32::35::(ds++ [10])==((⟨#[110,32,35]⟩:ByteArray)++⟨ds.toArray⟩++⟨#[10]⟩).toList)=true:=by
 rw[ByteArray.toList_eq];simp
def nmV (j:Nat):Value:= .string ⟨(R.bgItem j).toArray⟩
theorem gn {X:World}{g:Nat}{L:List Nat}(h:∀j (h:j<L.length),X.cell? ⟨g,j,none⟩=some (.string ⟨(R.bgItem L[j]).toArray⟩))(k:Nat):∀j u,((L.take k).map nmV)[j]? =some u→X.cell? ((⟨g,0,none⟩:Addr).add j)=some u:=fun j u hu=>by
 rw[List.getElem?_map,List.getElem?_take]at hu;split at hu
 ·cases e:L[j]? with
  |none=>rw[e]at hu;cases hu
  |some x=>
   rw[e]at hu;obtain⟨hj,rfl⟩:=List.getElem?_eq_some_iff.1 e;rw[ZH,Nat.zero_add,h j hj];exact hu
 ·cases hu
theorem gp {X:World}{g:Nat}{L:List Nat}(h:∀j (h:j<L.length),X.cell? ⟨g,j,none⟩=some (.string ⟨(R.bgItem L[j]).toArray⟩))(k:Nat):∀j u,((L.drop k).map nmV)[j]? =some u→X.cell? ((⟨g,k,none⟩:Addr).add j)=some u:=fun j u hu=>by
 rw[List.getElem?_map,List.getElem?_drop]at hu
 cases e:L[k+j]? with
 |none=>rw[e]at hu;cases hu
 |some x=>
  rw[e]at hu;obtain⟨hj,rfl⟩:=List.getElem?_eq_some_iff.1 e;rw[ZH,h (k+j) hj];exact hu
theorem Oq (L:List Nat):∀u∈L.map nmV,u.oneCell' =true:=fun u hu=>by
 obtain⟨j,_,rfl⟩:=List.mem_map.1 hu;rfl
theorem uU {X5 X6:World}{v:Value}(hc:(v.ownBlock=(Value.slice none 0 0).ownBlock∧X5.grownBy X6 (Value.slice none 0 0).ownBlock)∨(v.ownBlock=some X5.heap.size∧X5.grownBy X6 none)):ze X5 X6∧∀b,v.ownBlock=some b→X5.heap.size≤b:=by
 rcases hc with⟨h1,h2⟩|⟨h1,h2⟩
 ·have a0 :X5.grownBy X6 none:=h2
  refine⟨⟨a0.os,a0.output,a0.size,fun b hb=>a0.block b hb (by simp)⟩,fun b hb=> ?_⟩;rw[h1]at hb
  cases hb
 ·refine⟨⟨h2.os,h2.output,h2.size,fun b hb=>h2.block b hb (by simp)⟩,fun b hb=> ?_⟩
  rw[h1]at hb;injection hb with hb
  omega
theorem jH {w1 X5 X6 X7:World}{HX:Nat→Prop}{B c:Nat}{st:R.St}{v1 v2:Value}{n:Nat}{xs:List Value}{L' :List Nat}(hs:KS w1 HX B st c X5)(k6:ze X5 X6)(b6:∀b,v1.ownBlock=some b→X5.heap.size≤b)
  (ho:X7.ownsRow X5.heap.size 9 1 v2 n xs)(hc:(v2.ownBlock=v1.ownBlock∧X6.grownBy X7 v1.ownBlock)∨(v2.ownBlock=some X6.heap.size∧X6.grownBy X7 none))(he:xs=L'.map nmV)(hn:n=L'.length):
  ∃la lc H2,v2= .slice la L'.length lc∧ze X5 X7∧KS X7 H2 B st c X7∧(∀b,HX b→H2 b)∧O8 X7 H2 la lc L' :=by
 have k7:ze X5 X7:=by
  rcases hc with⟨_,h2⟩|⟨_,h2⟩
  ·refine⟨h2.os.trans k6.os,h2.output.trans k6.output,j0f k6.size h2.size,fun b hb=> ?_⟩
   rw[h2.block b (j0b hb k6.size) (fun e=>by have:=b6 b e.symm;omega)];exact k6.block b hb
  ·refine⟨h2.os.trans k6.os,h2.output.trans k6.output,j0f k6.size h2.size,fun b hb=> ?_⟩
   rw[h2.block b (j0b hb k6.size) (by simp)];exact k6.block b hb
 obtain⟨la,lc,hv,h1,h2,h3,h4⟩:=zn ho;subst hn he;refine⟨la,lc,fun b=>HX b∨(X5.heap.size≤b∧b<X7.heap.size),hv,k7,hs.anchor k7 (fun b hb=>hb.imp id And.left) (fun b hb=> .inl hb) (fun b hb=> ?_),fun b hb=> .inl hb,fun hL=> ?_⟩
 ·rcases hb with hb|hb
  ·exact j0b (hs.hsub b hb) k7.size
  ·exact hb.2
 ·cases la with
  |none=>have:=h3 rfl;omega
  |some ad=>
   obtain⟨g,rfl,g1,g2,_,g3⟩:=h4 ad rfl;unfold maxLen at h2;refine⟨g,rfl,h1,by omega,.inr ⟨g1,g2⟩,fun j hj=>g3 j _ ?_⟩;rw[List.getElem?_map,j0d hj];rfl
theorem Ur (L:List Nat)(k:Nat):(L.take k).map nmV++(L.drop (k+1)).map nmV=(L.eraseIdx k).map nmV:=by
 rw[List.eraseIdx_eq_take_drop_succ,List.map_append]
theorem jX (L:List Nat)(k:Nat):(L.map nmV).take k++(L.map nmV).drop (k+1)=(L.eraseIdx k).map nmV:=by
 rw[←Ur,List.map_take,List.map_drop]
theorem gL (L:List Nat)(k:Nat)(h:L.length≤k+1):(L.map nmV).take k=(L.eraseIdx k).map nmV:=by
 rw[←jX,List.drop_eq_nil_of_le (by rw[List.length_map];exact h),List.append_nil]
theorem Vy:(Tryz.prog.info? 9).map (fun i=>(i.zero,i.size,i.bytes))=some (some (.string ⟨#[]⟩),1,16):=by kernel_rfl
theorem gE {w:World}(hG:ZO w)(h6:6≤w.heap.size)(first:Int)(l3:okN first)(va vo:Value)(a1:List R.Raw)(ord:List Int)(hA:Rd w (fun _=>False) va a1.length (yB a1))(hO:Rd w (fun _=>False) vo ord.length (ord.map fun n=>Value.int .i64 n))(g6:∀a∈a1,okR a)(g7:∀n∈ord,okN n):
  ∃N last o w' t',runNT Tryz.prog (N+1) (solo (G (Frame.enter Tryz.prog 7 #[.int .i64 first,va,vo] .normal) []) w) #[]=(.ended o w',t')∧runN Tryz.prog N (solo (G (Frame.enter Tryz.prog 7 #[.int .i64 first,va,vo] .normal) []) w)= .next last∧
   step Tryz.prog last= .ended o w' ∧Conc.Good Tryz.prog (AwR w) last o w' t' :=by
 have hP:=Xk;obtain⟨sa,sc,rfl,r9,o9,m3⟩:=hA;obtain⟨oa,oc,rfl,r6,o5,m0⟩:=hO;have e7:=z6 m3;have m9:=z6 m0;have n0:=z6 g6;have n3:=z6 g7;clear m3 m0 g6 g7;unfold maxLen at o9 o5;obtain⟨v1,p3,a5⟩:=vf first l3 1000 (by decide) (by decide)
 have P1:=z6 a5;clear a5 l3;have hR:∀(v:Value) (w' :World) (T:Nat→Question→Nat) (d:Nat),AwR w v w' →AwR w v (re w' T d):=fun v w' T d ⟨h1,h2⟩=>⟨h1,h2.re T d⟩
 refine uW hR (uz hP hR Tryz.func7 rfl (by kernel_rfl) ?_);have a7:ReC (VG Tryz.prog Tryz.f7 (AwR w)):=ReC.bodyE hR;simp only[Tryz.ntmps7,List.size_toArray,List.length_cons,List.length_nil,Nat.reduceAdd,Nat.reduceSub,Array.replicate_succ,Array.replicate_zero,List.push_toArray,List.append_toArray,List.nil_append,List.cons_append];refine z9 hP a7 fun T d=> ?_
 have HB:=z6 ((ze.refl w).re T d);generalize re w T d=W at*;go_wp2;refine zx hP ?_;refine Z7 hP 0 a7.thenT rfl rfl rfl Tryz.func23 (by decide) rfl fun T d=> ?_
 have HK:=z6 (HB.out.re T d);clear HB;generalize re W T d=W1 at*;go_wp2;refine⟨_,_,by simp[Act.eval],Fa (hG.keptM HK.out) (j0f h6 HK.out.size),?_⟩;rintro v V' ⟨rfl,hk⟩ T d;have HB:=z6 ((HK.out.trans hk).re T d);clear HK hk;generalize re V' T d=W2 at*;clear V';go_wp2;refine z9 hP a7 fun T d=> ?_
 have HK:=HB.out.re T d;have HS:=z6 (KS.new (w:=re W2 T d) (H:=fun b=>b<w.heap.size) (hG.keptM HK) (HK.h fun _ hb=>hb) (fun b hb=>by omega) (fun b hb=>j0b hb HK.size));clear HK HB;generalize re W2 T d=W3 at*;go_wp2_with fail
 refine(FC W3).mono ?_;rintro e W4 ⟨rfl,rfl⟩;go_wp2;generalize W3.alloc (.cells #[.slice none 0 0,.slice none 0 0,.slice none 0 0] 102)=V0 at*;generalize W3.heap.size=B at*;refine z9 hP a7 fun T d=> ?_
 have a0 :=z6 (HS.out.re T d);clear HS;generalize re V0 T d=U0 at*;go_wp2;have HS:=z6 a0.out;clear a0;generalize hV:U0=V1 at*;clear hV;refine z9 hP a7 fun T d=> ?_
 have a0 :=z6 (HS.out.re T d);clear HS;generalize re V1 T d=U1 at*;go_wp2_with fail
 refine(P1.out _).mono ?_;rintro e W' ⟨rfl,hw⟩;replace hw:=hw.symm;subst hw;go_wp2;have HS:=z6 a0.out;clear a0;generalize hV:U1=V2 at*;clear hV;have h0:(v1:Int)+1≤1000:=by omega
 obtain⟨s0,m2⟩:∃s:Int,s=(v1:Int)+1:=⟨_,rfl⟩
 have j4:0<s0:=by omega
 have o8:s0≤1000:=by omega
 rw[←m2];clear m2 h0 p3 P1;obtain⟨p4,ea⟩:=R.add5 s0 j4 (by omega);obtain⟨p5,ec⟩:=R.commit0 s0 p4;have EA:=z6 ea;have EC:=z6 ec;clear ea ec;refine z9 hP a7 fun T d=> ?_
 have a0 :=z6 (HS.out.re T d);clear HS;generalize re V2 T d=U2 at*;go_wp2_with fail
 refine(a0.out.branch (by omega) [97] (by unfold maxLen;simp) Cg).mono ?_;rintro e V3 ⟨rfl,hs⟩;have HS:=z6 hs;clear a0 hs;go_wp2;refine z9 hP a7 fun T d=> ?_
 have a0 :=z6 (HS.out.re T d);clear HS;generalize re V3 T d=U3 at*;go_wp2_with fail
 refine(a0.out.add [97] [110] s0 (by unfold maxLen;simp) (by omega) (by omega) (congrArg Prod.fst EA.out)).mono ?_;rintro e V4 ⟨rfl,hs⟩;rw[show(R.change (R.made aw0 [97] [] false).2 35 [97] [110] s0 []).2=_ from congrArg Prod.snd EA.out]at hs;have HS:=z6 hs;clear a0 hs;go_wp2;refine z9 hP a7 fun T d=> ?_
 have a0 :=z6 (HS.out.re T d);clear HS;generalize re V4 T d=U4 at*;go_wp2_with fail
 refine(a0.out.commit (by omega) [97] (congrArg Prod.fst EC.out)).mono ?_;rintro e V5 ⟨rfl,hs⟩;rw[show(R.commit _ [97]).2=_ from congrArg Prod.snd EC.out]at hs;have HS:=z6 hs;clear a0 hs;go_wp2;refine z9 hP a7 fun T d=> ?_
 have a0 :=z6 (HS.out.re T d);clear HS;generalize re V5 T d=U5 at*;clear EA EC;go_wp2;have HS:=z6 a0.out;clear a0;generalize hV:U5=V6 at*;clear hV;refine z9 hP a7 fun T d=> ?_
 have a0 :=z6 (HS.out.re T d);clear HS;generalize re V6 T d=U6 at*;go_wp2;have HK:Hid (ze w U6):=a0.out.held.m fun _ hb=>hb
 have HS:=z6 (a0.out.anchor ((ze.refl U6).alloc (.cells #[.string ⟨#[97]⟩,.string ⟨#[98]⟩,.string ⟨#[99]⟩,.string ⟨#[100]⟩,.string ⟨#[101]⟩] 9)) (H2:=fun b=>b<w.heap.size∨b=U6.heap.size) (fun b hb=>hb.imp id (by omega)) (fun b hb=> .inl hb) (fun b hb=>by
  have:=HK.out.size;simp;omega))
 have HC:Hid (∀i,i<5→(U6.alloc (.cells #[.string ⟨#[97]⟩,.string ⟨#[98]⟩,.string ⟨#[99]⟩,.string ⟨#[100]⟩,.string ⟨#[101]⟩] 9)).cell? ⟨U6.heap.size,i,none⟩=some (.string ⟨(R.bgItem i).toArray⟩)):=fun i hi=>by
  rcases(by omega:i=0∨i=1∨i=2∨i=3∨i=4)with rfl|rfl|rfl|rfl|rfl<;>simp<;>rfl
 have i2:=z6 (HK.out.alloc (.cells #[.string ⟨#[97]⟩,.string ⟨#[98]⟩,.string ⟨#[99]⟩,.string ⟨#[100]⟩,.string ⟨#[101]⟩] 9));clear HK a0;have k5:∀b,b<w.heap.size→b<w.heap.size∨b=U6.heap.size:=fun b hb=> .inl hb
 have k6:U6.heap.size<w.heap.size∨U6.heap.size=U6.heap.size:= .inr rfl;generalize i6:(fun b=>b<w.heap.size∨b=U6.heap.size)=HH at*;have h7:Hid (∀b,b<w.heap.size→HH b):=by subst i6;exact k5
 have h8:Hid (HH U6.heap.size):=by subst i6;exact k6
 clear k5 k6 i6;generalize U6.alloc (.cells #[.string ⟨#[97]⟩,.string ⟨#[98]⟩,.string ⟨#[99]⟩,.string ⟨#[100]⟩,.string ⟨#[101]⟩] 9)=A0 at*;generalize U6.heap.size=it at*;refine z9 hP a7 fun T d=> ?_
 have a0 :=z6 (HS.out.re T d);clear HS;generalize re A0 T d=U7 at*;go_wp2;go_loopw [15] (fun i wr=>∃k:Nat,1≤k∧k≤5∧i= .int .i64 k∧∃pk,KS A0 HH B (R.forkS s0 k pk) (3+k) wr) (fun i _=>5-(intOf i).toNat)
 case atStart=>exact⟨1,j0a _,by decide,rfl,p5,a0.out.mono (by decide)⟩
 case round=>
  obtain⟨k,n9,hk,rfl,pk,hs⟩:=hrel;have HS:=z6 hs;clear hs a0;by_cases a8:k<5
  ·have e0:=(HS.out.held.cell (p:=⟨it,k,none⟩) h8.out).trans (HC.out k a8)
   obtain⟨p6,ef⟩:=R.fork5 s0 n9 a8 pk;have EF:=z6 ef;clear ef;go_wp2_with fail
   refine(HS.out.fork (by omega) (R.bgItem k) [97] (by unfold maxLen;simp[R.bgItem]) (congrArg Prod.fst EF.out)).mono ?_;rintro e W5 ⟨rfl,hs⟩;rw[show(R.made _ (R.bgItem k) [97] true).2=_ from congrArg Prod.snd EF.out]at hs;have e6:=z6 hs;clear hs EF;go_wp2;exact⟨⟨k+1,by omega,by omega,by simp,p6,e6.out⟩,by simp[intOf];omega⟩
  ·have:k=5:=by omega
   subst this;go_wp2;have j7:Hid (∀(b off:Nat),sa=some ⟨b,off,none⟩→b<w.heap.size→(∀j u,(yB a1)[j]? =some u→w.cell? ⟨b,off+j,none⟩=some u)→∀(st:R.St) (c:Nat) (X:World),KS A0 HH B st c X→∀(k j:Nat) (u:Value),(yB a1)[k*4+j]? =some u→X.cell? ⟨b,off+k*4+j,none⟩=some u):=fun b off _ hb hc st c X hX k j u hu=>by
    rw[hX.held.cell (p:=⟨b,off+k*4+j,none⟩) (h7.out b hb),World.cell?_of_block (a:=⟨b,off+k*4+j,none⟩) (i2.out.block b hb),Nat.add_assoc];exact hc _ _ hu
   rw[show((5:Nat):Int)=5 from rfl];refine zx hP (kZ (Q:=SmQ oa ord.length oc B it A0 HH s0) ?loop ?rest)
   case loop=>
    refine zl hP SmQ.re fun T d=> ?_
    have a0 :=z6 (HS.out.re T d);clear HS;generalize re wr T d=U7 at*;have k2:Hid (R.SumA s0 s0 0 0 1 (R.forkS s0 5 pk)):=R.sumA0 s0 (by omega) (by omega) pk;go_wp2;go_loopw [9,17] (fun s i wr=>∃(k:Nat) (a3:Int) (st:R.St),k≤20∧k≤a1.length∧i= .int .i64 k∧s= .int .i64 a3∧ -1000000≤a3+1000*(k:Int)∧a3-1000*(k:Int)≤1000000∧R.SumA s0 a3 k 0 (1+k) st∧KS A0 HH B st (8+2*k) wr) (fun _ i _=>20-(intOf i).toNat)
    case atStart=>exact⟨0,s0,_,Nat.zero_le _,Nat.zero_le _,rfl,rfl,by omega,by omega,k2.out,a0.out⟩
    case round=>
     obtain⟨k,a3,st,g2,q9,rfl,rfl,p8,p9,a6,hs⟩:=hrel;have HS:=z6 hs;have a9:=z6 a6;clear hs a6 k2 a0;by_cases a8:k<a1.length∧k<20
     ·obtain⟨a8,o4⟩:=a8
      obtain⟨b,off,rfl,hb,_,a4⟩:=e7.out (by omega);have b8:=z6 (j7.out b off rfl hb a4);clear a4;obtain⟨q0,q1,q2,q3⟩:=VF a1 k a8;have k1:Hid ((yB a1)[k*4+0]? =_):=q0;have n4:=z6 q1;have n5:=z6 q3;have d4:=n0.out _ (j0c a8);generalize a1[k]'a8=act at*;obtain⟨ak,ab,ap,an⟩:=act;obtain⟨pn,r8,b4⟩:=vf an d4.n 2001 (by decide) (by decide);obtain⟨pb,r7,b5⟩:=vf ab d4.b 5 (by decide) (by decide);have P1:=z6 b4;have P2:=z6 b5;have p7:=z6 d4.k;clear b4 b5 d4 q0 q1 q2 q3;have d5:pb<5:=by omega
      have h4:=z6 (R.sumA_add a9.out (by omega) d5 ((pn:Int)-1000) (by omega) (by omega));clear a9;have e3:=b8.out st _ wr HS.out k 3 _ n5.out;have e1:=b8.out st _ wr HS.out k 1 _ n4.out;have e0:=b8.out st _ wr HS.out k 0 _ k1.out;have e4:=(HS.out.held.cell (p:=⟨it,pb,none⟩) h8.out).trans (HC.out pb d5);simp only[Nat.add_zero]at e0;go_wp2_with fail
      refine(P1.out _).mono ?_;rintro e W' ⟨rfl,hw⟩;replace hw:=hw.symm;subst hw;go_wp2_with fail
      refine(P2.out _).mono ?_;rintro e W' ⟨rfl,hw⟩;replace hw:=hw.symm;subst hw;go_wp2_with fail
      refine(HS.out.add (R.bgItem pb) [110] ((pn:Int)-1000) (by unfold maxLen;simp) (by omega) (by omega) h4.out.1).mono ?_;rintro e W5 ⟨rfl,hs⟩;have e6:=z6 hs;clear hs;have e5:=b8.out _ _ W5 e6.out k 0 _ k1.out;simp only[Nat.add_zero]at e5
      cases o7:(ak.tmod 3==0)with
      |true=>
       have f6:=R.sumA_commit h4.out.2 (by omega) d5;rcases hr:(R.commit (R.change st 35 (R.bgItem pb) [110] ((pn:Int)-1000) []).2 (R.bgItem pb)).1 with⟨r1,r2⟩
       rw[hr]at f6;obtain⟨b0,f4,_⟩:=f6;have d8:=z6 f4;have HR:=z6 hr;clear f4 hr h4;go_wp2_with fail
       refine(e6.out.commit (by omega) (R.bgItem pb) HR.out).mono ?_;rintro e W6 ⟨rfl,hs⟩;have e8:=z6 hs;clear hs HR;rcases b0 with b0|b0
       ·subst b0
        go_wp2;go_roundw
        case rel=>exact⟨k+1,_,_,by omega,by omega,by simp,rfl,by omega,by omega,d8.out,e8.out⟩
        case measure=>simp[intOf];omega
       ·subst b0
        go_wp2;go_roundw
        case rel=>exact⟨k+1,_,_,by omega,by omega,by simp,rfl,by omega,by omega,d8.out,e8.out⟩
        case measure=>simp[intOf];omega
      |false=>
       go_wp2;go_roundw
       case rel=>exact⟨k+1,_,_,by omega,by omega,by simp,rfl,by omega,by omega,R.sumA_more h4.out.2 (by omega),e6.out.mono (by omega)⟩
       case measure=>simp[intOf];omega
     ·have b2:¬(k<a1.length∧k<20):=a8
      by_cases j0:k<a1.length
      ·have l5 :¬k<20:=fun h=>b2 ⟨j0,h⟩
       clear b2 a8;go_wp2;exact⟨rfl,rfl,rfl,rfl,rfl,rfl,a3,k,st,g2,rfl,R.sumA_more a9.out (by omega),HS.out.mono (by omega)⟩
      ·clear b2 a8
       go_wp2;exact⟨rfl,rfl,rfl,rfl,rfl,rfl,a3,k,st,g2,rfl,R.sumA_more a9.out (by omega),HS.out.mono (by omega)⟩
   case rest=>
    rintro e a wr ⟨rfl,hd,b6,t2,t8,m5,a3,na,st,r5,t9,a6,hs⟩;simp only[Exit.then];obtain⟨f,a2,b1⟩:=xG hd b6;rw[a2 2 _ t2,a2 8 _ t8,a2 9 _ t9,a2 14 _ m5]at b1;clear a2 hd b6 t2 t8 t9 m5;subst b1;have HS:=z6 hs;have a9:=z6 a6;clear hs a6 e7 j7;refine z9 hP a7 fun T d=> ?_
    have a0 :=z6 (HS.out.re T d);clear HS;generalize re wr T d=U20 at*;go_wp2;go_loopw [23] (fun i wr=>∃(k:Nat) (st:R.St),k≤5∧i= .int .i64 k∧R.SumA s0 a3 na k (21+k) st∧KS A0 HH B st (48+k) wr) (fun i _=>5-(intOf i).toNat)
    case atStart=>exact⟨0,st,Nat.zero_le _,rfl,a9.out,a0.out⟩
    case round=>
     clear a0 a9;obtain⟨k,st,hk,rfl,a6,hs⟩:=hrel;have HS:=z6 hs;have a9:=z6 a6;clear hs a6;by_cases a8:k<5
     ·have e0:=(HS.out.held.cell (p:=⟨it,k,none⟩) h8.out).trans (HC.out k a8)
      have f6:=R.sumA_commit a9.out (by omega) a8;rcases hr:(R.commit st (R.bgItem k)).1 with⟨r1,r2⟩
      rw[hr]at f6;obtain⟨b0,_,f4⟩:=f6;have d8:=z6 (f4 rfl);have HR:=z6 hr;clear f4 hr a9;go_wp2_with fail
      refine(HS.out.commit (by omega) (R.bgItem k) HR.out).mono ?_;rintro e W6 ⟨rfl,hs⟩;have e8:=z6 hs;clear hs HR;rcases b0 with b0|b0
      ·subst b0
       go_wp2;go_roundw
       case rel=>exact⟨k+1,_,by omega,by simp,d8.out,e8.out⟩
       case measure=>simp[intOf];omega
      ·subst b0
       go_wp2;go_roundw
       case rel=>exact⟨k+1,_,by omega,by simp,d8.out,e8.out⟩
       case measure=>simp[intOf];omega
     ·have:k=5:=by omega
      subst this;have f0:=z6 (R.sumB_of a9.out (by omega) (by omega) (by omega));clear a9;go_wp2;rw[show((5:Nat):Int)=5 from rfl];refine z9 hP a7 fun T d=> ?_
      have a0 :=z6 (HS.out.re T d);clear HS;generalize re wr T d=U20 at*;go_wp2;have HK:Hid (ze w U20):=((i2.out.h (H:=fun b=>b<w.heap.size) fun _ hb=>hb).trans (a0.out.held.smaller h7.out)).m fun _ hb=>hb
      have HS:=z6 (a0.out.anchor ((ze.refl U20).alloc (.cells #[.string ⟨#[98]⟩,.string ⟨#[99]⟩,.string ⟨#[100]⟩,.string ⟨#[101]⟩] 9)) (H2:=fun b=>HH b∨b=U20.heap.size) (fun b hb=>hb.imp id (by omega)) (fun b hb=> .inl hb) (fun b hb=>by
       have:=a0.out.hsub b;simp;rcases hb with hb|hb
       ·have:=this hb
        omega
       ·omega))
      have e2:Hid (O8 (U20.alloc (.cells #[.string ⟨#[98]⟩,.string ⟨#[99]⟩,.string ⟨#[100]⟩,.string ⟨#[101]⟩] 9)) (fun b=>HH b∨b=U20.heap.size) (some ⟨U20.heap.size,0,none⟩) 4 [1,2,3,4]):=fun _=>⟨U20.heap.size,rfl,by decide,by decide,.inr rfl,fun j hj=>by
       have q7:j<4:=hj;rcases(by omega:j=0∨j=1∨j=2∨j=3)with rfl|rfl|rfl|rfl<;>simp<;>rfl⟩
      have b9:=z6 (HK.out.alloc (.cells #[.string ⟨#[98]⟩,.string ⟨#[99]⟩,.string ⟨#[100]⟩,.string ⟨#[101]⟩] 9));have b7:Hid (∀b,b<w.heap.size→(fun b=>HH b∨b=U20.heap.size) b):=fun b hb=> .inl (h7.out b hb)
      clear HK a0 i2 h7 h8 HC;generalize(fun b=>HH b∨b=U20.heap.size)=HX0 at*;generalize U20.alloc (.cells #[.string ⟨#[98]⟩,.string ⟨#[99]⟩,.string ⟨#[100]⟩,.string ⟨#[101]⟩] 9)=A1 at*;generalize U20.heap.size=g0 at*;refine zx hP (kZ (Q:=SnQ w B s0 a3) ?loop2 ?rest2)
      case loop2=>
       refine z9 hP SnQ.re fun T d=> ?_
       have a0 :=z6 (HS.out.re T d);clear HS;generalize re A1 T d=X0 at*;go_wp2;refine y7 hP ?_;refine k_ hP (SnI w oa ord.length oc B s0 a3) (fun a _=>4-gU a) ?_ ?_
       ·exact⟨⟨rfl,rfl,rfl,rfl,rfl⟩,0,[1,2,3,4],_,_,_,A1,HX0,by decide,rfl,by decide,by decide,rfl,rfl,f0.out,a0.out.mono (by decide),b7.out,b9.out,e2.out⟩
       clear a0 f0 e2 b9 b7;rintro a wr ⟨⟨hd,b6,t2,t8,t9⟩,i,L,la,lc,st,w1,HX,q4,q5,l9,m1,d7,h3,g9,hs,f9,g3,l7⟩;have d3:∀μ0:Nat,ReC (Exit.then (fun a' w' =>SnI w oa ord.length oc B s0 a3 a' w' ∧4-gU a' <μ0) (Exit.inBlock 6 (SnQ w B s0 a3))):=fun μ0=>SnQ.re.inBlock.thenM fun a w T d ⟨h1,h6⟩=>⟨h1.re T d,h6⟩
       have l8:4-gU a=4-i:=by
        unfold gU;simp only[Array.getD_eq_getD_getElem?,d7];simp[intOf]
       rw[l8];obtain⟨f,a2,b1⟩:=xG hd b6;rw[a2 2 _ t2,a2 8 _ t8,a2 9 _ t9,a2 26 _ h3,a2 27 _ d7]at b1;clear l8 a2 hd b6 t2 t8 t9 h3 d7;subst b1;have HS:=z6 hs;have f0:=z6 g9;have b7:=z6 f9;have b9:=z6 g3;have i4:=z6 m1;have i3:=z6 l9;have e2:=z6 l7;clear hs g9 f9 g3 m1 l9 l7;by_cases a8:i<4
       ·obtain⟨g,rfl,l6,r0,hg,l0⟩:=e2.out (by omega)
        have HG:=z6 hg;have j8:=z6 l0;clear e2 hg l0;refine z9 hP (d3 _) fun T d=> ?_
        have a0 :=z6 (HS.out.re T d);clear HS;generalize re wr T d=X1 at*;go_wp2;refine zx hP ?_;refine y7 hP ?_;refine z9 hP (d3 _).thenT.inBlock fun T d=> ?_
        have HS:=z6 (a0.out.re T d);clear a0;generalize re X1 T d=X2 at*;go_wp2;refine zx hP (kZ (Q:=SkQ oa ord.length oc B i L.length a3 (some ⟨g,0,none⟩) lc w1 HX st) ?which ?rest3)
        case which=>
         refine zl hP SkQ.re fun T d=> ?_
         have a0 :=z6 (HS.out.re T d);clear HS;generalize re X2 T d=X3 at*;by_cases g1:i<ord.length
         ·obtain⟨b,off,rfl,hb,_,a4⟩:=m9.out (by omega)
          have k8:w.cell? ⟨b,off+i,none⟩=some (.int .i64 (ord[i]'g1)):=a4 i _ (by rw[List.getElem?_map,j0d g1];rfl);have e0:X3.cell? ⟨b,off+i,none⟩=some (.int .i64 (ord[i]'g1)):=by
           rw[a0.out.held.cell (p:=⟨b,off+i,none⟩) (b7.out b hb),World.cell?_of_block (a:=⟨b,off+i,none⟩) (b9.out.block b hb)];exact k8
          have d4:=n3.out _ (j0c g1);clear a4 k8;generalize ord[i]'g1=oi at*;obtain⟨kk,b2,a5⟩:=vf oi d4 (L.length:Int) (by omega) (by omega);have PK:=z6 a5;clear a5 d4;have i9:kk<L.length:=by omega
          go_wp2_with fail
          refine(PK.out _).mono ?_;rintro e W' ⟨rfl,hw⟩;replace hw:=hw.symm;subst hw;go_wp2;exact⟨rfl,rfl,rfl,rfl,rfl,rfl,rfl,rfl,a0.out,kk,i9,rfl⟩
         ·go_wp2
          exact⟨rfl,rfl,rfl,rfl,rfl,rfl,rfl,rfl,a0.out,0,by omega,rfl⟩
        case rest3=>
         rintro e a wr ⟨rfl,hd,b6,t2,t8,t9,h3,d7,hs,kk,b2,m6⟩;simp only[Exit.then];obtain⟨f2,a2,b1⟩:=xG hd b6;rw[a2 2 _ t2,a2 8 _ t8,a2 9 _ t9,a2 26 _ h3,a2 27 _ d7,a2 28 _ m6]at b1;clear a2 hd b6 t2 t8 t9 h3 d7 m6 HS;subst b1;have HS:=z6 hs;clear hs;have i7:=R.sumB_join f0.out i3.out i4.out (by omega) b2 (by omega);have j9:=z6 i7.2;rcases hr:(R.joinB st (R.bgItem 0) (R.bgItem (L[kk]'b2))).1 with⟨r1,r2⟩
         rw[hr]at i7;obtain⟨j2,_⟩:=i7;have j2:r2=0:=j2;subst j2;have HR:=z6 hr;clear hr;refine zx hP ?_;refine Z7 hP 5 (d3 _).thenT.inBlock.thenT rfl rfl rfl Tryz.func19 (by decide) rfl fun T d=> ?_
         have a0 :=z6 (HS.out.re T d);clear HS;generalize re wr T d=X3 at*;have e0:=(a0.out.held.cell (p:=⟨g,kk,none⟩) HG.out).trans (j8.out kk b2);simp only[List.take_succ_cons,List.take_zero,List.drop_succ_cons,List.drop_zero];go_wp2;refine⟨_,_,by simp[Act.eval],a0.out.joinE (by omega) [97] (R.bgItem (L[kk]'b2)) (by simp) HR.out,?_⟩;rintro v V' ⟨rfl,hs⟩ T d;have HS:=z6 (hs.re T d);clear a0 hs HR e0;generalize re V' T d=X4 at*;clear V';go_wp2;have q8:kk≤lc:=by omega
         refine zl hP (d3 _).thenT.inBlock fun T d=> ?_
         have a0 :=z6 (HS.out.re T d);clear HS;generalize re X4 T d=X5 at*;have i1:Hid (∀j (h:j<L.length),X5.cell? ⟨g,j,none⟩=some (.string ⟨(R.bgItem L[j]).toArray⟩)):=fun j h=>(a0.out.held.cell (p:=⟨g,j,none⟩) HG.out).trans (j8.out j h)
         have k4:=z6 (gn i1.out kk);go_wp2_with (at_builtin;go_loud (refine qb _ (by rfl) _ _ 45 (by rfl) X5.heap.size 9 (.string ⟨#[]⟩) 1 16 Tryz.underlying45 Vy (by rfl) (by decide) (World.ownsRow_nil _ _ _ _) ⟨g,0,none⟩ kk lc ((L.take kk).map nmV) (by rw[List.length_map,List.length_take];omega) (by exact k4.out) (by rfl) (by rfl) (by exact Oq _) (by unfold maxLen;omega) (by omega) (j0a _) ?_))
         intro v' X6 j1 k9;obtain⟨i8,k7⟩:=uU k9;obtain⟨ra,rc,p0,o6,j3,_⟩:=zn j1;unfold maxLen at j3;subst p0;have i0:=z6 j1;have d6:=z6 i8;have h5:=z6 k7;have l4:=a0.out.hsub g HG.out;have m7:Hid (∀j (h:j<L.length),X6.cell? ⟨g,j,none⟩=some (.string ⟨(R.bgItem L[j]).toArray⟩)):=fun j h=>by
          rw[World.cell?_of_block (a:=⟨g,j,none⟩) (i8.block g l4)];exact i1.out j h
         have h9:Hid (ze w X5):=((b9.out.h (H:=fun b=>b<w.heap.size) fun _ hb=>hb).trans (a0.out.held.smaller b7.out)).m fun _ hb=>hb
         have c9:Hid (kk+(L.length-(kk+1))=(L.eraseIdx kk).length):=by
          show _=_;rw[List.length_eraseIdx_of_lt b2];omega
         clear j1 k9 i8 k7 k4 i1 l4;by_cases o3:lc=kk+1
         ·subst o3
          have c6:Hid (kk=(L.eraseIdx kk).length):=by
           show _=_;rw[List.length_eraseIdx_of_lt b2];omega
          go_wp2_with (at_builtin;go_loud (refine qb _ (by rfl) _ _ 45 (by rfl) X5.heap.size 9 (.string ⟨#[]⟩) 1 16 Tryz.underlying45 Vy (by rfl) (by decide) (by exact i0.out) ⟨g,0,none⟩ 0 _ [] (by rfl) (by intro j u hu;simp at hu) (by rfl) (by rfl) (by intro u hu;simp at hu) (by unfold maxLen;omega) (by omega) (by exact d6.out.size) ?_))
          intro v2 X7 g5 f5;obtain⟨j5,j6,H2,h0,g4,g8,f8,b3⟩:=jH a0.out d6.out h5.out g5 f5 (by first|exact gL L kk l6|exact erase_nm5 L kk l6) (by first|exact c6.out|(rw[Nat.add_zero];exact c6.out));subst h0;have e9:=z6 g8;have c8:=z6 b3;have c7:Hid (∀b,b<w.heap.size→H2 b):=fun b hb=>f8 b (b7.out b hb)
          have d9:=z6 (h9.out.trans g4);clear g8 b3 g4 f8 g5 f5 i0 d6 h5 h9;go_wp2;refine zl hP (d3 _) fun T d=> ?_
          have i5:=z6 (e9.out.re T d);have HQ:=d9.out;clear e9;go_wp2;exact⟨⟨⟨rfl,rfl,rfl,rfl,rfl⟩,i+1,L.eraseIdx kk,j5,j6,_,X7,H2,by omega,by have:=c9.out;omega,i3.out.sublist (List.eraseIdx_sublist ..),fun j hj=>i4.out j (List.mem_of_mem_eraseIdx hj),by simp,rfl,j9.out,i5.out,c7.out,d9.out,c8.out⟩,by simp[gU,intOf];omega⟩
         ·have n6:=z6 (gp m7.out (kk+1))
          go_wp2_with (at_builtin;go_loud (refine qb _ (by rfl) _ _ 45 (by rfl) X5.heap.size 9 (.string ⟨#[]⟩) 1 16 Tryz.underlying45 Vy (by rfl) (by decide) (by exact i0.out) ⟨g,kk+1,none⟩ (L.length-(kk+1)) _ ((L.drop (kk+1)).map nmV) (by rw[List.length_map,List.length_drop];omega) (by exact n6.out) (by rfl) (by rfl) (by exact Oq _) (by unfold maxLen;omega) (by omega) (by exact d6.out.size) ?_))
          intro v2 X7 g5 f5;obtain⟨j5,j6,H2,h0,g4,g8,f8,b3⟩:=jH a0.out d6.out h5.out g5 f5 (by first|exact jX L kk|exact erase_nm3 L kk|exact Ur L kk) c9.out;subst h0;have e9:=z6 g8;have c8:=z6 b3;have c7:Hid (∀b,b<w.heap.size→H2 b):=fun b hb=>f8 b (b7.out b hb)
          have d9:=z6 (h9.out.trans g4);clear g8 b3 g4 f8 g5 f5 i0 d6 h5 h9;go_wp2;refine zl hP (d3 _) fun T d=> ?_
          have i5:=z6 (e9.out.re T d);have HQ:=d9.out;clear e9;go_wp2;exact⟨⟨⟨rfl,rfl,rfl,rfl,rfl⟩,i+1,L.eraseIdx kk,j5,j6,_,X7,H2,by omega,by have:=c9.out;omega,i3.out.sublist (List.eraseIdx_sublist ..),fun j hj=>i4.out j (List.mem_of_mem_eraseIdx hj),by simp,rfl,j9.out,i5.out,c7.out,d9.out,c8.out⟩,by simp[gU,intOf];omega⟩
       ·have n7:L.length=0:=by omega
        have n8:L=[]:=List.length_eq_zero_iff.1 n7;subst n8;have:i=4:=by omega
        subst this;refine z9 hP (d3 _) fun T d=> ?_
        have a0 :=z6 (HS.out.re T d);clear HS;generalize re wr T d=X1 at*;go_wp2;exact⟨rfl,rfl,rfl,rfl,rfl,st,w1,HX,f0.out,a0.out,b7.out,b9.out⟩
      case rest2=>
       rintro e a wr ⟨rfl,hd,b6,t8,t9,st,w1,HX,g9,hs,f9,g3⟩;simp only[Exit.then];obtain⟨f3,a2,b1⟩:=xG hd b6;rw[a2 8 _ t8,a2 9 _ t9]at b1;clear a2 hd b6 t8 t9;subst b1;obtain⟨m4,r3,r4⟩:=R.sumB_show g9;have k3:=z6 m4;have b7:=z6 f9;have b9:=z6 g3;clear m4 g9 f9 g3;refine z9 hP a7 fun T d=> ?_
       have a0 :=z6 (hs.re T d);clear hs;generalize re wr T d=X1 at*;go_wp2_with fail
       refine(a0.out.show_ [97] k3.out).mono ?_;rintro e X2 ⟨rfl,hs⟩;have HS:=z6 hs;clear hs a0;have q6:(Lib.itoa a3).length≤100:=j0f (Lib.itoa_length_le a3 (by omega) (by omega)) (by decide);have m8:=z6 (fun W=>gv a3 (by omega) (by omega) W);generalize Lib.itoa a3=ds at*;clear k3;go_wp2;refine z9 hP a7 fun T d=> ?_
       have a0 :=z6 (HS.out.re T d);clear HS;generalize re X2 T d=X3 at*;go_wp2_with fail
       refine(m8.out _).mono ?_;rintro e W' ⟨rfl,hw⟩;replace hw:=hw.symm;subst hw;go_wp2;refine qG hP ?_;refine⟨rfl,_,fun W=>⟨by simp[results,Tryz.results7,go_sem],by simp[results,Tryz.results7,go_sem]⟩,⟨congrArg Value.bool (FQ ds),((b9.out.h (H:=fun b=>b<w.heap.size) fun _ hb=>hb).trans (a0.out.held.smaller b7.out)).m fun _ hb=>hb⟩⟩
end
