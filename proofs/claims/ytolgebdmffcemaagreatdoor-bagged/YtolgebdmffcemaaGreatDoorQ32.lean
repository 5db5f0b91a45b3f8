import Derived.Test.YtolgebdmffcemaaGreatDoorQ31
import Derived.Test.YtolgebdmffcemaaGreatDoorQ27
set_option linter.all false
set_option maxHeartbeats 20000000
set_option maxRecDepth 1000000
namespace Go.Proofs.YtolgebdmffcemaaGreatDoor
open Go.RowKit Go Go.Conc
def Q9 (c n:Int):Int:=(if c<0 then-(c+1)else c) % n
theorem Gg (c n:Int)(h:0<n):0≤Q9 c n∧Q9 c n<n:=⟨Int.emod_nonneg _ (by omega),Int.emod_lt_of_pos _ h⟩
theorem FW (c n:Int)(w:World)(h1: -9223372036854775808≤c)(h2:c≤9223372036854775807)(hn:0<n)(a0:n≤9223372036854775807):
  Calls Tryz.prog 25 #[.int .i64 c,.int .i64 n] w fun e w' =>e= .returned (.int .i64 (Q9 c n))∧w' =w:=by
 by_cases hc:c<0
 ·have HP:Hid (Q9 c n=(-(c+1)).tmod n):=by
   show _=_;unfold Q9;rw[if_pos hc,Int.tmod_eq_emod_of_nonneg (by omega)]
  go_enter Tryz.func25,Tryz.ntmps25;go_wp2;go_ret;exact⟨xB (by rw[HP.out,Int.neg_tmod]),rfl⟩
 ·have HP:Hid (Q9 c n=c % n):=by
   show _=_;unfold Q9;rw[if_neg hc]
  go_enter Tryz.func25,Tryz.ntmps25;go_wp2;go_ret;exact⟨xB HP.out,rfl⟩
structure yW (H:Nat→Prop)(w w' :World):Prop where
 os:w'.os=w.os
 output:w'.output=w.output
 size:w.heap.size≤w'.heap.size
 block:∀k,H k→w'.heap[k]? =w.heap[k]?
theorem yW.refl (H:Nat→Prop)(w:World):yW H w w:=⟨rfl,rfl,j0a _,fun _ _=>rfl⟩
theorem yW.trans {H:Nat→Prop}{w w1 w2:World}(h:yW H w w1)(h2:yW H w1 w2):yW H w w2:=⟨h2.os.trans h.os,h2.output.trans h.output,j0f h.size h2.size,fun k hk=>(h2.block k hk).trans (h.block k hk)⟩
theorem zh.h {w w' :World}(k:zh w w'){H:Nat→Prop}(hs:∀b,H b→b<w.heap.size):yW H w w' :=⟨k.os,k.output,k.size,fun b hb=>k.block b (hs b hb)⟩
theorem yW.m {H:Nat→Prop}{w w' :World}(h:yW H w w')(hs:∀b,b<w.heap.size→H b):zh w w' :=⟨h.os,h.output,h.size,fun b hb=>h.block b (hs b hb)⟩
theorem yW.smaller {H H2:Nat→Prop}{w w' :World}(h:yW H w w')(hs:∀b,H2 b→H b):yW H2 w w' :=⟨h.os,h.output,h.size,fun b hb=>h.block b (hs b hb)⟩
theorem yW.cell {H:Nat→Prop}{w w' :World}(h:yW H w w'){p:Addr}(hp:H p.block):w'.cell? p=w.cell? p:=World.cell?_of_block (w:=w) (h.block _ hp)
def KS (w0:World)(H:Nat→Prop)(B:Nat)(st:R.St)(c:Nat)(w:World):Prop:=∃O:Nat→Prop,PS w O O B st∧(∀b,O b→¬H b∧b<w.heap.size)∧Inv st∧st.packed.length≤300000*c∧ZL w∧yW H w0 w∧(∀b,b<6→H b)∧(∀b,H b→b<w.heap.size)
section
variable {w0 w w' :World}{H:Nat→Prop}{B c:Nat}{st st' :R.St}
theorem KS.inv (h:KS w0 H B st c w):Inv st:=by obtain⟨O,_,_,h,_⟩:=h;exact h
theorem KS.held (h:KS w0 H B st c w):yW H w0 w:=by obtain⟨O,_,_,_,_,_,h,_⟩:=h;exact h
theorem KS.keptM (h:KS w0 H B st c w)(k:zh w w'):KS w0 H B st c w' :=by
 obtain⟨O,⟨bv,cv,LB,LCm,h1⟩,h2,h3,h4,h5,h6,h7,h8⟩:=h;exact⟨O,⟨bv,cv,LB,LCm,h1.keptM k⟩,fun b hb=>⟨(h2 b hb).1,j0b (h2 b hb).2 k.size⟩,h3,h4,h5.keptM k,h6.trans (k.h h8),h7,fun b hb=>j0b (h8 b hb) k.size⟩
theorem KS.re (h:KS w0 H B st c w)(T:Nat→Question→Nat)(d:Nat):KS w0 H B st c (Go.Proofs.YtolgebdmffcemaaGreatDoor.re w T d):=h.keptM ((zh.refl w).re T d)
theorem KS.mono (h:KS w0 H B st c w){c' :Nat}(hc:c≤c'):KS w0 H B st c' w:=by
 obtain⟨O,h1,h2,h3,h4,h5⟩:=h;exact⟨O,h1,h2,h3,by omega,h5⟩
theorem KS.anchor (h:KS w0 H B st c w)(k:zh w w'){H2:Nat→Prop}(h1:∀b,H2 b→H b∨w.heap.size≤b)(h2:∀b,H b→H2 b)(h3:∀b,H2 b→b<w'.heap.size):KS w' H2 B st c w' :=by
 obtain⟨O,g1,g2,g3,g4,g5,g6,g7,g8⟩:=h.keptM k;obtain⟨O0,⟨bv,cv,LB,LCm,k1⟩,k2,k3,k4,k5,k6,k7,k8⟩:=h;exact⟨O0,⟨bv,cv,LB,LCm,k1.keptM k⟩,fun b hb=>⟨fun e=>by
  have hk:=k2 b hb;rcases h1 b e with e|e
  ·exact hk.1 e
  ·omega,j0b (k2 b hb).2 k.size⟩,k3,k4,g5,yW.refl _ _,fun b hb=>h2 b (k7 b hb),h3⟩
theorem Of {O:Nat→Prop}(h2:∀b,O b→¬H b∧b<w.heap.size)(hG:ZL w)(hb:yW H w0 w)(h6:∀b,b<6→H b)(h8:∀b,H b→b<w.heap.size)(h:ZG w w' O O B st')(hi:Inv st')(hp:st'.packed.length≤300000*c):KS w0 H B st' c w' :=by
 obtain⟨O',p1,p2,p3⟩:=h;have hO:∀b,O' b→¬H b:=fun b hb he=>by
  rcases p3 b hb with h|h
  ·exact(h2 b h).1 he
  ·have:=h8 b he;omega
 obtain⟨bv,cv,LB,LCm,hx⟩:=p1;refine⟨O',PS.smaller ⟨bv,cv,LB,LCm,hx⟩ (fun b hb=> .inr hb) (fun b hb=>hb),fun b hb=>⟨hO b hb,hx.lt b hb⟩,hi,hp,?_,?_,h6,fun b hb=>j0b (h8 b hb) p2.size⟩
 ·have hk:zg O w (Go.Proofs.YtolgebdmffcemaaGreatDoor.re w' w.tape w'.drawn):=⟨p2.os,rfl,p2.output,p2.size,p2.block⟩
  have:=(hG.kept hk (fun b hb=>by
   apply Nat.le_of_not_lt;intro e;exact(h2 b hb).1 (h6 b e))).re w'.tape w'.drawn
  exact this
 ·exact hb.trans ⟨p2.os,p2.output,p2.size,fun k hk=>p2.block k (h8 k hk) (fun e=>(h2 k e).1 hk)⟩
theorem KS.six {O:Nat→Prop}(h2:∀b,O b→¬H b∧b<w.heap.size)(h6:∀b,b<6→H b):∀b,O b→6≤b:=fun b hb=>Nat.le_of_not_lt fun e=>(h2 b hb).1 (h6 b e)
theorem KS.call (h:KS w0 H B st c w){f:FuncId}{args:Array Value}{v:Value}(a0 :Inv st')(a1 :st'.packed.length≤st.packed.length+300000)
  (hc:∀O:Nat→Prop,PS w O O B st→(∀b,O b→b<w.heap.size)→(∀b,O b→6≤b)→Inv st→ZL w→st.packed.length≤300000*c→Calls Tryz.prog f args w fun e w' =>e= .returned v∧zS w w' O O B st'):
  Calls Tryz.prog f args w fun e w' =>e= .returned v∧KS w0 H B st' (c+1) w' :=by
 obtain⟨O,h1,h2,h3,h4,h5,h6,h7,h8⟩:=h;refine(hc O h1 (fun b hb=>(h2 b hb).2) (KS.six h2 h7) h3 h5 h4).mono fun e w' ⟨e1,e2⟩=>⟨e1,Of h2 h5 h6 h7 h8 (ZG.of (zh.refl w) e2) a0 (by omega)⟩
theorem KS.look (h:KS w0 H B st c w){f:FuncId}{args:Array Value}{v:Value}
  (hc:∀O:Nat→Prop,PS w O O B st→Inv st→ZL w→Calls Tryz.prog f args w fun e w' =>e= .returned v∧Below w.heap.size w w'):
  Calls Tryz.prog f args w fun e w' =>e= .returned v∧KS w0 H B st c w' :=by
 obtain⟨O,h1,h2,h3,h4,h5,h6⟩:=id h;exact(hc O h1 h3 h5).mono fun e w' ⟨e1,e2⟩=>⟨e1,h.keptM (zh.of_below e2)⟩
def Fs (w0:World)(H:Nat→Prop)(B c:Nat)(r:(Int×Int)×R.St)(v:Value)(w' :World):Prop:=v= .tuple #[.int .i64 r.1.1,.int .i64 r.1.2]∧KS w0 H B r.2 c w'
theorem KS.join (h:KS w0 H B st c w)(hc:c≤300000)(a0 fr:List UInt8)(a1:a0.length≤1000):
  zT Tryz.prog 19 #[.pointer (some ⟨B,0,none⟩),.string ⟨a0.toArray⟩,.string ⟨fr.toArray⟩] w (Fs w0 H B (c+1) (R.joinB st a0 fr)):=by
 obtain⟨O,h1,h2,h3,h4,h5,h6,h7,h8⟩:=h;refine(FE h3 h1 (fun b hb=>(h2 b hb).2) h5 (KS.six h2 h7) (by omega) a0 fr a1).mono fun v w' ⟨e1,e2⟩=>⟨e1,Of h2 h5 h6 h7 h8 e2 (gp h3 a0 fr) ?_⟩
 have:=Jo h3 a0 fr;omega
def Ft (w0:World)(H:Nat→Prop)(B c:Nat)(st:R.St)(r:List UInt8×Int)(v:Value)(w' :World):Prop:=v= .tuple #[.string ⟨r.1.toArray⟩,.int .i64 r.2]∧KS w0 H B st c w'
theorem KS.base (h:KS w0 H B st c w)(a b:Int):
  zT Tryz.prog 35 #[.pointer (some ⟨B,0,none⟩),.int .i64 a,.int .i64 b] w (Ft w0 H B c st (R.baseAt st a b)):=by
 obtain⟨O,h1,h2,h3,h4,h5,h6⟩:=id h;exact(FF h3 h1 (fun b hb=>(h2 b hb).2) h5 a b).mono fun v w' ⟨e1,e2⟩=>⟨e1,h.keptM e2⟩
end
section
variable {w0 w:World}{H:Nat→Prop}{B c:Nat}{st:R.St}
theorem KS.branch (h:KS w0 H B st c w)(hc:c≤300000)(name:List UInt8)(a0:name.length≤maxLen){r:Int}(hr:(R.made st name [] false).1=r):
  Calls Tryz.prog 26 #[.pointer (some ⟨B,0,none⟩),.string ⟨name.toArray⟩] w fun e w' =>e= .returned (.int .i64 r)∧KS w0 H B (R.made st name [] false).2 (c+1) w' :=by
 subst hr;exact h.call (uH h.inv _ _ _) (by have:=kf st name [] false;omega) fun O h1 h2 h3 h4 h5 h6=>GQ B st name w O O h1 h4 a0 (by omega)
theorem KS.fork (h:KS w0 H B st c w)(hc:c≤300000)(name fr:List UInt8)(a0:name.length≤maxLen){r:Int}(hr:(R.made st name fr true).1=r):
  Calls Tryz.prog 29 #[.pointer (some ⟨B,0,none⟩),.string ⟨name.toArray⟩,.string ⟨fr.toArray⟩] w fun e w' =>e= .returned (.int .i64 r)∧KS w0 H B (R.made st name fr true).2 (c+1) w' :=by
 subst hr;exact h.call (uH h.inv _ _ _) (by have:=kf st name fr true;omega) fun O h1 h2 h3 h4 h5 h6=>ce B st name fr w O O h1 h4 a0 (by omega)
theorem KS.add (h:KS w0 H B st c w)(a0 path:List UInt8)(n:Int)(a3:path.length≤maxLen)(a1:n≤9223372036854775807)(a2: -9223372036854775808≤n){r:Int}(hr:(R.change st 35 a0 path n []).1=r):
  Calls Tryz.prog 27 #[.pointer (some ⟨B,0,none⟩),.string ⟨a0.toArray⟩,.string ⟨path.toArray⟩,.int .i64 n] w fun e w' =>e= .returned (.int .i64 r)∧KS w0 H B (R.change st 35 a0 path n []).2 (c+1) w' :=by
 subst hr;exact h.call (XM h.inv _ _ _ _ _ (by simp)) (by rw[Yi];omega) fun O h1 h2 h3 h4 h5 h6=>C5 B st a0 path n w O O h1 h2 h4 h5 a3 a1 a2
theorem KS.note (h:KS w0 H B st c w)(a0 path text:List UInt8)(a1:path.length≤maxLen)(a2:text.length≤maxLen){r:Int}(hr:(R.change st 61 a0 path 0 text).1=r):
  Calls Tryz.prog 41 #[.pointer (some ⟨B,0,none⟩),.string ⟨a0.toArray⟩,.string ⟨path.toArray⟩,.string ⟨text.toArray⟩] w fun e w' =>e= .returned (.int .i64 r)∧KS w0 H B (R.change st 61 a0 path 0 text).2 (c+1) w' :=by
 subst hr;exact h.call (XM h.inv _ _ _ _ _ (by simp)) (by rw[Yi];omega) fun O h1 h2 h3 h4 h5 h6=>cd B st a0 path text w O O h1 h2 h4 h5 a1 a2
theorem KS.put (h:KS w0 H B st c w)(a0 path text:List UInt8)(a1:path.length≤maxLen)(a2:text.length≤maxLen){r:Int}(hr:(R.change st 42 a0 path 0 text).1=r):
  Calls Tryz.prog 31 #[.pointer (some ⟨B,0,none⟩),.string ⟨a0.toArray⟩,.string ⟨path.toArray⟩,.string ⟨text.toArray⟩] w fun e w' =>e= .returned (.int .i64 r)∧KS w0 H B (R.change st 42 a0 path 0 text).2 (c+1) w' :=by
 subst hr;exact h.call (XM h.inv _ _ _ _ _ (by simp)) (by rw[Yi];omega) fun O h1 h2 h3 h4 h5 h6=>C4 B st a0 path text w O O h1 h2 h4 h5 a1 a2
theorem KS.take (h:KS w0 H B st c w)(a0 path text:List UInt8)(a1:path.length≤maxLen)(a2:text.length≤maxLen){r:Int}(hr:(R.change st 45 a0 path 0 text).1=r):
  Calls Tryz.prog 32 #[.pointer (some ⟨B,0,none⟩),.string ⟨a0.toArray⟩,.string ⟨path.toArray⟩,.string ⟨text.toArray⟩] w fun e w' =>e= .returned (.int .i64 r)∧KS w0 H B (R.change st 45 a0 path 0 text).2 (c+1) w' :=by
 subst hr;exact h.call (XM h.inv _ _ _ _ _ (by simp)) (by rw[Yi];omega) fun O h1 h2 h3 h4 h5 h6=>c6 B st a0 path text w O O h1 h2 h4 h5 a1 a2
theorem KS.commit (h:KS w0 H B st c w)(hc:c≤300000)(name:List UInt8){r:Int×Int}(hr:(R.commit st name).1=r):
  Calls Tryz.prog 28 #[.pointer (some ⟨B,0,none⟩),.string ⟨name.toArray⟩] w fun e w' =>e= .returned (.tuple #[.int .i64 r.1,.int .i64 r.2])∧KS w0 H B (R.commit st name).2 (c+1) w' :=by
 subst hr;exact h.call (oO h.inv _) (j9 h.inv name) fun O h1 h2 h3 h4 h5 h6=>GP B st name w O O h1 h4 h2 (by omega) h5 h3
theorem KS.show_ (h:KS w0 H B st c w)(name:List UInt8){r:List UInt8×Int}(hr:R.shown st name=r):
  Calls Tryz.prog 20 #[.pointer (some ⟨B,0,none⟩),.string ⟨name.toArray⟩] w fun e w' =>e= .returned (.tuple #[.string ⟨r.1.toArray⟩,.int .i64 r.2])∧KS w0 H B st c w' :=by
 subst hr;exact h.look fun O h1 h4 h5=>c7 B st name w O O h1 h4 h5
end
def aw0:R.St:={cms:=[],brs:=[],packed:=[]}
def aw1:R.St:=(R.made aw0 [97] [] false).2
def aw2:R.St:=(R.change aw1 35 [97] [120,47,110] 5 []).2
def aw3:R.St:=(R.change aw2 61 [97] [120] 0 [104,105]).2
def aw4:R.St:=(R.commit aw3 [97]).2
def aw5:R.St:=(R.commit aw4 [97]).2
def aw6:R.St:=(R.made aw5 [98] [97] true).2
def aw7:R.St:=(R.change aw6 35 [98] [120,47,110] 2 []).2
def aw8:R.St:=(R.change aw7 42 [98] [115] 0 [112]).2
def aw9:R.St:=(R.commit aw8 [98]).2
def awa:R.St:=(R.change aw9 35 [97] [120,47,110] (-1) []).2
def awb:R.St:=(R.change awa 42 [97] [115] 0 [113]).2
def awc:R.St:=(R.commit awb [97]).2
def awd:R.St:=(R.joinB awc [97] [98]).2
def awe:R.St:=(R.joinB awd [98] [97]).2
theorem ae1:(R.made aw0 [97] [] false).1=0:=by decide+kernel
theorem ae2:(R.change aw1 35 [97] [120,47,110] 5 []).1=0:=by decide+kernel
theorem ae3:R.shown aw2 [97]=([120,47,110,32,35,53,10],0):=by decide+kernel
theorem ae4:(R.change aw2 61 [97] [120] 0 [104,105]).1=7:=by decide+kernel
theorem ae5:(R.commit aw3 [97]).1=(1,0):=by decide+kernel
theorem ae6:(R.commit aw4 [97]).1=(0,9):=by decide+kernel
theorem ae7:(R.made aw5 [98] [97] true).1=0:=by decide+kernel
theorem ae8:(R.change aw6 35 [98] [120,47,110] 2 []).1=0:=by decide+kernel
theorem ae9:(R.change aw7 42 [98] [115] 0 [112]).1=0:=by decide+kernel
theorem aea:(R.commit aw8 [98]).1=(2,0):=by decide+kernel
theorem aeb:(R.change aw9 35 [97] [120,47,110] (-1) []).1=0:=by decide+kernel
theorem aec:(R.change awa 42 [97] [115] 0 [113]).1=0:=by decide+kernel
theorem aed:(R.commit awb [97]).1=(3,0):=by decide+kernel
theorem aee:(R.joinB awc [97] [98]).1=(4,0):=by decide+kernel
theorem aef:R.shown awd [97]=([115,32,42,112,59,113,10,120,47,110,32,35,54,10],0):=by decide+kernel
theorem aeg:(R.joinB awd [98] [97]).1=(4,0):=by decide+kernel
theorem aeh:R.baseAt awe 2 3=([120,47,110,32,35,53,10],0):=by decide+kernel
theorem KS.new {w0 w:World}{H:Nat→Prop}(hG:ZL w)(hb:yW H w0 w)(h6:∀b,b<6→H b)(h8:∀b,H b→b<w.heap.size):KS w0 H w.heap.size aw0 0 (w.alloc (.cells #[.slice none 0 0,.slice none 0 0,.slice none 0 0] 102)):=by
 have a0:=(j0g w.heap.size w).alloc (j0a _) (.cells #[.slice none 0 0,.slice none 0 0,.slice none 0 0] 102);refine⟨fun b=>b=w.heap.size,C9 (heap_alloc_new w _) rfl,fun b hb=>⟨fun e=>by have:=h8 b e;omega,by simp;omega⟩,Inv.no,by simp[aw0],hG.below a0,hb.trans ((zh.of_below a0).h h8),h6,fun b hb=>by have:=h8 b hb;simp;omega⟩
def AwR (w:World)(v:Value)(w' :World):Prop:=v= .bool true∧zh w w'
theorem KS.kept {w:World}{B c:Nat}{st:R.St}{w' :World}(h:KS w (fun b=>b<w.heap.size) B st c w'):zh w w' :=h.held.m fun _ hb=>hb
theorem KS.joinE {w0 w:World}{H:Nat→Prop}{B c:Nat}{st:R.St}(h:KS w0 H B st c w)(hc:c≤300000)(a0 fr:List UInt8)(a1:a0.length≤1000){r:Int×Int}(hr:(R.joinB st a0 fr).1=r):
  zT Tryz.prog 19 #[.pointer (some ⟨B,0,none⟩),.string ⟨a0.toArray⟩,.string ⟨fr.toArray⟩] w (Fs w0 H B (c+1) (r,(R.joinB st a0 fr).2)):=by
 subst hr;exact h.join hc a0 fr a1
theorem KS.baseE {w0 w:World}{H:Nat→Prop}{B c:Nat}{st:R.St}(h:KS w0 H B st c w)(a b:Int){r:List UInt8×Int}(hr:R.baseAt st a b=r):
  zT Tryz.prog 35 #[.pointer (some ⟨B,0,none⟩),.int .i64 a,.int .i64 b] w (Ft w0 H B c st r):=by
 subst hr;exact h.base a b
section
theorem fX {w:World}(hG:ZL w)(h6:6≤w.heap.size):zT Tryz.prog 23 #[] w (AwR w):=by
 have hP:=Xi;refine zY hP Tryz.func23 rfl ?_;have a1:ReC (Z3 Tryz.prog Tryz.f23 (AwR w)):=ReC.body fun v w' T d ⟨h1,h2⟩=>⟨h1,h2.re T d⟩
 simp only[Tryz.ntmps23,List.size_toArray,List.length_cons,List.length_nil,Nat.reduceAdd,Nat.reduceSub,Array.replicate_succ,Array.replicate_zero,List.push_toArray,List.append_toArray,List.nil_append,List.cons_append];refine z7 hP a1 fun T d=> ?_
 have HG:=z6 (hG.keptM ((zh.refl w).re T d));have HB:=z6 ((zh.refl w).re T d);have a2:w.heap.size≤(re w T d).heap.size:=j0a _;generalize re w T d=W at*;go_wp2;refine z7 hP a1 fun T d=> ?_
 have HK:=HB.out.re T d;have HS:=z6 (KS.new (w:=re W T d) (H:=fun b=>b<w.heap.size) (hG.keptM HK) (HK.h fun _ hb=>hb) (fun b hb=>by omega) (fun b hb=>j0b hb a2));clear HK;clear HG HB a2;generalize re W T d=W1 at*;go_wp2_with fail
 refine(Fp W1).mono ?_;rintro e W2 ⟨rfl,rfl⟩;go_wp2;generalize W1.alloc (.cells #[.slice none 0 0,.slice none 0 0,.slice none 0 0] 102)=V0 at*;generalize W1.heap.size=B at*;refine z7 hP a1 fun T d=> ?_
 have a0 :=z6 (HS.out.re T d);clear HS;generalize re V0 T d=U0 at*;go_wp2;have HS:=z6 a0.out;clear a0;generalize hV:U0=V1 at*;clear hV;refine z7 hP a1 fun T d=> ?_
 have a0 :=z6 (HS.out.re T d);clear HS;generalize re V1 T d=U1 at*;go_wp2_with fail
 refine(a0.out.branch (by omega) [97] (by unfold maxLen;simp) ae1).mono ?_;rintro e V2 ⟨rfl,hs⟩;have HS:=z6 hs;clear a0 hs;go_wp2;refine z7 hP a1 fun T d=> ?_
 have a0 :=z6 (HS.out.re T d);clear HS;generalize re V2 T d=U2 at*;go_wp2_with fail
 refine(a0.out.add [97] [120,47,110] 5 (by unfold maxLen;simp) (by omega) (by omega) ae2).mono ?_;rintro e V3 ⟨rfl,hs⟩;have HS:=z6 hs;clear a0 hs;go_wp2;refine z7 hP a1 fun T d=> ?_
 have a0 :=z6 (HS.out.re T d);clear HS;generalize re V3 T d=U3 at*;go_wp2_with fail
 refine(a0.out.show_ [97] ae3).mono ?_;rintro e V4 ⟨rfl,hs⟩;have HS:=z6 hs;clear a0 hs;go_wp2;refine z7 hP a1 fun T d=> ?_
 have a0 :=z6 (HS.out.re T d);clear HS;generalize re V4 T d=U4 at*;go_wp2_with fail
 refine(a0.out.note [97] [120] [104,105] (by unfold maxLen;simp) (by unfold maxLen;simp) ae4).mono ?_;rintro e V5 ⟨rfl,hs⟩;have HS:=z6 hs;clear a0 hs;go_wp2;refine z7 hP a1 fun T d=> ?_
 have a0 :=z6 (HS.out.re T d);clear HS;generalize re V5 T d=U5 at*;go_wp2_with fail
 refine(a0.out.commit (by omega) [97] ae5).mono ?_;rintro e V6 ⟨rfl,hs⟩;have HS:=z6 hs;clear a0 hs;go_wp2;refine z7 hP a1 fun T d=> ?_
 have a0 :=z6 (HS.out.re T d);clear HS;generalize re V6 T d=U6 at*;go_wp2_with fail
 refine(a0.out.commit (by omega) [97] ae6).mono ?_;rintro e V7 ⟨rfl,hs⟩;have HS:=z6 hs;clear a0 hs;go_wp2;refine z7 hP a1 fun T d=> ?_
 have a0 :=z6 (HS.out.re T d);clear HS;generalize re V7 T d=U7 at*;go_wp2;have HS:=z6 a0.out;clear a0;generalize hV:U7=V8 at*;clear hV;refine z7 hP a1 fun T d=> ?_
 have a0 :=z6 (HS.out.re T d);clear HS;generalize re V8 T d=U8 at*;go_wp2_with fail
 refine(a0.out.fork (by omega) [98] [97] (by unfold maxLen;simp) ae7).mono ?_;rintro e V9 ⟨rfl,hs⟩;have HS:=z6 hs;clear a0 hs;go_wp2;refine z7 hP a1 fun T d=> ?_
 have a0 :=z6 (HS.out.re T d);clear HS;generalize re V9 T d=U9 at*;go_wp2_with fail
 refine(a0.out.add [98] [120,47,110] 2 (by unfold maxLen;simp) (by omega) (by omega) ae8).mono ?_;rintro e a3 ⟨rfl,hs⟩;have HS:=z6 hs;clear a0 hs;go_wp2;refine z7 hP a1 fun T d=> ?_
 have a0 :=z6 (HS.out.re T d);clear HS;generalize re a3 T d=U10 at*;go_wp2_with fail
 refine(a0.out.put [98] [115] [112] (by unfold maxLen;simp) (by unfold maxLen;simp) ae9).mono ?_;rintro e a4 ⟨rfl,hs⟩;have HS:=z6 hs;clear a0 hs;go_wp2;refine z7 hP a1 fun T d=> ?_
 have a0 :=z6 (HS.out.re T d);clear HS;generalize re a4 T d=U11 at*;go_wp2_with fail
 refine(a0.out.commit (by omega) [98] aea).mono ?_;rintro e a5 ⟨rfl,hs⟩;have HS:=z6 hs;clear a0 hs;go_wp2;refine z7 hP a1 fun T d=> ?_
 have a0 :=z6 (HS.out.re T d);clear HS;generalize re a5 T d=U12 at*;go_wp2_with fail
 refine(a0.out.add [97] [120,47,110] (-1) (by unfold maxLen;simp) (by omega) (by omega) aeb).mono ?_;rintro e a6 ⟨rfl,hs⟩;have HS:=z6 hs;clear a0 hs;go_wp2;refine z7 hP a1 fun T d=> ?_
 have a0 :=z6 (HS.out.re T d);clear HS;generalize re a6 T d=U13 at*;go_wp2_with fail
 refine(a0.out.put [97] [115] [113] (by unfold maxLen;simp) (by unfold maxLen;simp) aec).mono ?_;rintro e a7 ⟨rfl,hs⟩;have HS:=z6 hs;clear a0 hs;go_wp2;refine z7 hP a1 fun T d=> ?_
 have a0 :=z6 (HS.out.re T d);clear HS;generalize re a7 T d=U14 at*;go_wp2_with fail
 refine(a0.out.commit (by omega) [97] aed).mono ?_;rintro e a8 ⟨rfl,hs⟩;have HS:=z6 hs;clear a0 hs;go_wp2;refine z7 hP a1 fun T d=> ?_
 have a0 :=z6 (HS.out.re T d);clear HS;generalize re a8 T d=U15 at*;go_wp2;have HS:=z6 a0.out;clear a0;generalize hV:U15=V16 at*;clear hV;refine zD hP ?_;refine Z6 hP 1 a1.thenT rfl rfl rfl Tryz.func19 (by decide) rfl fun T d=> ?_
 have a0 :=z6 (HS.out.re T d);clear HS;generalize re V16 T d=U16 at*;go_wp2;refine⟨_,_,by simp[Act.eval],a0.out.joinE (by omega) [97] [98] (by simp) aee,?_⟩;rintro v V' ⟨rfl,hs⟩ T d;have HS:=z6 (hs.re T d);clear a0 hs;generalize re V' T d=V17 at*;clear V';go_wp2;refine z7 hP a1 fun T d=> ?_
 have a0 :=z6 (HS.out.re T d);clear HS;generalize re V17 T d=U17 at*;go_wp2_with fail
 refine(a0.out.show_ [97] aef).mono ?_;rintro e a9 ⟨rfl,hs⟩;have HS:=z6 hs;clear a0 hs;go_wp2;refine zD hP ?_;refine Z6 hP 1 a1.thenT rfl rfl rfl Tryz.func19 (by decide) rfl fun T d=> ?_
 have a0 :=z6 (HS.out.re T d);clear HS;generalize re a9 T d=U18 at*;go_wp2;refine⟨_,_,by simp[Act.eval],a0.out.joinE (by omega) [98] [97] (by simp) aeg,?_⟩;rintro v V' ⟨rfl,hs⟩ T d;have HS:=z6 (hs.re T d);clear a0 hs;generalize re V' T d=V19 at*;clear V';go_wp2;refine zD hP ?_;refine Z6 hP 1 a1.thenT rfl rfl rfl Tryz.func35 (by decide) rfl fun T d=> ?_
 have a0 :=z6 (HS.out.re T d);clear HS;generalize re V19 T d=U19 at*;go_wp2;refine⟨_,_,by simp[Act.eval],a0.out.baseE 2 3 aeh,?_⟩;rintro v V' ⟨rfl,hs⟩ T d;have HS:=z6 (hs.re T d);clear a0 hs;generalize re V' T d=V20 at*;clear V';go_wp2;refine z7 hP a1 fun T d=> ?_
 have a0 :=z6 (HS.out.re T d);clear HS;generalize re V20 T d=U20 at*;go_wp2;refine Zo hP ?_;refine⟨rfl,_,fun W=> ?_,⟨rfl,a0.out.kept⟩⟩;simp[results,Tryz.results23,go_sem]
end
def bgL (c:Nat→Bool)(k:Nat):List (List UInt8):=((List.range k).filter c).map R.bgItem
theorem KR (c:Nat→Bool)(k:Nat):bgL c (k+1)=if c k then bgL c k++ [R.bgItem k]else bgL c k:=by
 unfold bgL;rw[List.range_succ,List.filter_append,List.map_append]
 cases h:c k<;>simp[h]
theorem JB:∀x:Nat,x<32→∀k:Nat,k<5→(bits BinOp.and IntKind.i64 ((x:Int)/2^k) 1==1)=R.bit x k:=by decide+kernel
theorem xH (c:Nat→Bool)(k:Nat)(hk:k≤5):(R.joinI (bgL c k)).length≤6000:=by
 have h1:=R.joinI_length (bgL c k) (fun i hi=>by
  unfold bgL at hi;obtain⟨j,_,rfl⟩:=List.mem_map.1 hi;simp[R.bgItem])
 have h2:(bgL c k).length≤k:=by
  unfold bgL;rw[List.length_map];exact j0f (List.length_filter_le ..) (by simp)
 have h3:=Nat.mul_le_mul_right 1001 (j0f h2 hk);omega
theorem uK (l:List (List UInt8))(h:∀s∈l,s≠ []):(R.joinI l).isEmpty=decide (l=[]):=by
 match l with
 |[]=>rfl
 |[x]=>
  have:=h x (List.mem_cons_self ..)
  cases x with
  |nil=>exact absurd rfl this
  |cons a r=>rfl
 |x::y::r=>simp[R.joinI]
theorem yH (c:Nat→Bool)(k:Nat):(R.joinI (bgL c k)).isEmpty=decide (bgL c k=[]):=uK _ fun s hs=>by
 unfold bgL at hs;obtain⟨j,_,rfl⟩:=List.mem_map.1 hs;simp[R.bgItem]
theorem qM (a b:List UInt8):(⟨a.toArray⟩++⟨b.toArray⟩:ByteArray)=⟨(a++b).toArray⟩:=by
 apply ByteArray.ext;simp
theorem JZ {c:Nat→Bool}{k:Nat}(hc:c k=true)(h:(!(R.joinI (bgL c k)).isEmpty)=false):R.joinI (bgL c k)++R.bgItem k=R.joinI (bgL c (k+1)):=by
 have e:bgL c k=[]:=by
  rw[yH]at h;simpa using h
 rw[KR,if_pos hc,e];rfl
theorem jg {c:Nat→Bool}{k:Nat}(hc:c k=true)(h:(!(R.joinI (bgL c k)).isEmpty)=true):R.joinI (bgL c k)++ [59]++R.bgItem k=R.joinI (bgL c (k+1)):=by
 have e:bgL c k≠ []:=by
  rw[yH]at h;simpa using h
 rw[KR,if_pos hc,R.joinI_snoc _ _ e];simp
theorem JY {c:Nat→Bool}{k:Nat}(hc:c k=false):R.joinI (bgL c k)=R.joinI (bgL c (k+1)):=by
 rw[KR,hc];rfl
theorem qv (x:Nat)(hx:x<32)(it:Nat)(w:World)(hc:∀i,i<5→w.cell? ⟨it,i,none⟩=some (.string ⟨(R.bgItem i).toArray⟩)):
  Calls Tryz.prog 33 #[.int .i64 x,.slice (some ⟨it,0,none⟩) 5 5] w fun e w' =>e= .returned (.string ⟨(R.joinI (R.bgList x)).toArray⟩)∧w' =w:=by
 have HX:=z6 (JB x hx);have HC:=z6 hc;clear hc;go_enter Tryz.func33,Tryz.ntmps33;go_wp2;go_loop [5,6] (fun s i=>∃k:Nat,k≤5∧i= .int .i64 k∧s= .string ⟨(R.joinI (bgL (R.bit x) k)).toArray⟩) (fun _ i=>5-(intOf i).toNat)
 case atStart=>exact⟨0,Nat.zero_le _,rfl,by rfl⟩
 case round=>
  obtain⟨k,hk,rfl,rfl⟩:=hrel;by_cases a2:k<5
  ·have e0:=HC.out k a2
   have hb:=HX.out k a2;have hl:=xH (R.bit x) k hk;have a3:(R.bgItem k).length=1:=rfl;have HM:=z6 fun h1=> @jg (R.bit x) k h1
   have HE:=z6 fun h1=> @JZ (R.bit x) k h1
   have HN:=z6 fun h1=> @JY (R.bit x) k h1
   generalize R.joinI (bgL (R.bit x) k)=acc at*;generalize R.bgItem k=im at*
   cases a0:R.bit x k with
   |true=>
    rw[a0]at hb
    cases a1: !acc.isEmpty with
    |true=>
     go_wp2;refine⟨⟨k+1,by omega,by simp,?_⟩,by simp[intOf];omega⟩;rw[←HM.out a0 a1,←qM,←qM]
    |false=>
     go_wp2;refine⟨⟨k+1,by omega,by simp,?_⟩,by simp[intOf];omega⟩;rw[←HE.out a0 a1,←qM]
   |false=>
    rw[a0]at hb;go_wp2;refine⟨⟨k+1,by omega,by simp,?_⟩,by simp[intOf];omega⟩;rw[←HN.out a0]
  ·have:k=5:=by omega
   subst this;go_wp2;go_ret;exact⟨XB rfl,rfl⟩
section
theorem bqF {a b:Nat}(h:a≠b):((a:Int)==(b:Int))=false:=by simp;omega
theorem cr {a:Nat}(h:0≠a):((0:Int)==(a:Int))=false:=by simp;omega
theorem Fc {a:Nat}(h:a≠0):((a:Int)==0)=false:=by simp;omega
theorem qL (a0 ww:List UInt8)(a1:(!a0.isEmpty)=true)(h:ww=[97,32,35,49,10,98,32,35,49,10]++((if a0.isEmpty then []else [98,97,103]++ [32,42]++a0++ [10])++ [110,32,35,49,10])):
  (ww==((⟨#[97,32,35,49,10,98,32,35,49,10]⟩:ByteArray)++⟨#[98,97,103,32,42]⟩++⟨a0.toArray⟩++⟨#[10]⟩++⟨#[110,32,35,49,10]⟩).toList)=true:=by
 have e:a0.isEmpty=false:=by simpa using a1
 rw[h,e,ByteArray.toList_eq];simp
theorem xT (a0 ww:List UInt8)(a1:(!a0.isEmpty)=false)(h:ww=[97,32,35,49,10,98,32,35,49,10]++((if a0.isEmpty then []else [98,97,103]++ [32,42]++a0++ [10])++ [110,32,35,49,10])):
  (ww==((⟨#[97,32,35,49,10,98,32,35,49,10]⟩:ByteArray)++⟨#[110,32,35,49,10]⟩).toList)=true:=by
 have e:a0.isEmpty=true:=by simpa using a1
 rw[h,e,ByteArray.toList_eq];simp
theorem Cj (x y f:Nat):x=y∨(x≠y∧x=f)∨(x≠y∧x≠f∧y=f)∨(x≠y∧x≠f∧y≠f∧x=0)∨(x≠y∧x≠f∧y≠f∧x≠0∧y=0)∨(x≠y∧x≠f∧y≠f∧x≠0∧y≠0):=by
 by_cases h0:x=y
 ·exact .inl h0
 by_cases h1:x=f
 ·exact .inr (.inl ⟨h0,h1⟩)
 by_cases h2:y=f
 ·exact .inr (.inr (.inl ⟨h0,h1,h2⟩))
 by_cases h3:x=0
 ·exact .inr (.inr (.inr (.inl ⟨h0,h1,h2,h3⟩)))
 by_cases h4:y=0
 ·exact .inr (.inr (.inr (.inr (.inl ⟨h0,h1,h2,h3,h4⟩))))
 ·exact .inr (.inr (.inr (.inr (.inr ⟨h0,h1,h2,h3,h4⟩))))
theorem Cv:(R.made aw0 [97] [] false).1=0:=by decide+kernel
theorem Cu:(R.change (R.made aw0 [97] [] false).2 35 [97] [110] 1 []).1=0:=by decide+kernel
def gH (f x y k:Nat):R.St:=if k=0 then R.bg3 f else if k=1 then R.bg4 f x else R.bg5 f x y
def bgC (f x y i:Nat):Bool:=(R.bit x i&&R.bit y i)||((R.bit x i||R.bit y i)&& !R.bit f i)
theorem Vy {α β:Type}(g:α→β→α)(a:α)(l:List β)(b:β):(l++ [b]).foldl g a=g (l.foldl g a) b:=by rw[List.foldl_append];rfl
theorem gt {w:World}(hG:ZL w)(h6:6≤w.heap.size)(first b5 a9:Int)(f x y:Nat)(hf:f<32)(hx:x<32)(hy:y<32)
  (p1:∀W:World,Calls Tryz.prog 25 #[.int .i64 first,.int .i64 32] W fun e w' =>e= .returned (.int .i64 f)∧w' =W)
  (p2:∀W:World,Calls Tryz.prog 25 #[.int .i64 b5,.int .i64 32] W fun e w' =>e= .returned (.int .i64 x)∧w' =W)
  (p3:∀W:World,Calls Tryz.prog 25 #[.int .i64 a9,.int .i64 32] W fun e w' =>e= .returned (.int .i64 y)∧w' =W)
  (hF:Cc f x y):
  ∃N last o w' t',runNT Tryz.prog (N+1) (solo (G (Frame.enter Tryz.prog 8 #[.int .i64 first,.int .i64 b5,.int .i64 a9] .normal) []) w) #[]=(.ended o w',t')∧runN Tryz.prog N (solo (G (Frame.enter Tryz.prog 8 #[.int .i64 first,.int .i64 b5,.int .i64 a9] .normal) []) w)= .next last∧
   step Tryz.prog last= .ended o w' ∧Conc.Good Tryz.prog (AwR w) last o w' t' :=by
 have hP:=Xi;have hR:∀(v:Value) (w' :World) (T:Nat→Question→Nat) (d:Nat),AwR w v w' →AwR w v (re w' T d):=fun v w' T d ⟨h1,h2⟩=>⟨h1,h2.re T d⟩
 refine uQ hR (uu hP hR Tryz.func8 rfl (by kernel_rfl) ?_);have a1:ReC (VG Tryz.prog Tryz.f8 (AwR w)):=ReC.bodyE hR;simp only[Tryz.ntmps8,List.size_toArray,List.length_cons,List.length_nil,Nat.reduceAdd,Nat.reduceSub,Array.replicate_succ,Array.replicate_zero,List.push_toArray,List.append_toArray,List.nil_append,List.cons_append];have P1:=z6 p1;have P2:=z6 p2;have P3:=z6 p3;have HF:=z6 hF;have BF:=z6 (JB f hf);have BX:=z6 (JB x hx);have BY:=z6 (JB y hy);clear p1 p2 p3 hF;refine z7 hP a1 fun T d=> ?_
 have HB:=z6 ((zh.refl w).re T d);have c8:w.heap.size≤(re w T d).heap.size:=j0a _;generalize re w T d=W at*;go_wp2;refine zD hP ?_;refine Z6 hP 0 a1.thenT rfl rfl rfl Tryz.func23 (by decide) rfl fun T d=> ?_
 have HK:=z6 (HB.out.re T d);clear HB c8;generalize re W T d=W1 at*;go_wp2;refine⟨_,_,by simp[Act.eval],fX (hG.keptM HK.out) (j0f h6 HK.out.size),?_⟩;rintro v V' ⟨rfl,hk⟩ T d;have HB:=z6 ((HK.out.trans hk).re T d);clear HK hk;generalize re V' T d=W2 at*;clear V';go_wp2;refine z7 hP a1 fun T d=> ?_
 have HK:=HB.out.re T d;have HS:=z6 (KS.new (w:=re W2 T d) (H:=fun b=>b<w.heap.size) (hG.keptM HK) (HK.h fun _ hb=>hb) (fun b hb=>by omega) (fun b hb=>j0b hb HK.size));clear HK HB;generalize re W2 T d=W3 at*;go_wp2_with fail
 refine(Fp W3).mono ?_;rintro e W4 ⟨rfl,rfl⟩;go_wp2;generalize W3.alloc (.cells #[.slice none 0 0,.slice none 0 0,.slice none 0 0] 102)=V0 at*;generalize W3.heap.size=B at*;refine z7 hP a1 fun T d=> ?_
 have a0 :=z6 (HS.out.re T d);clear HS;generalize re V0 T d=U0 at*;go_wp2;have HS:=z6 a0.out;clear a0;generalize hV:U0=V1 at*;clear hV;refine z7 hP a1 fun T d=> ?_
 have a0 :=z6 (HS.out.re T d);clear HS;generalize re V1 T d=U1 at*;go_wp2;have HK:Hid (zh w U1):=a0.out.held.m fun _ hb=>hb
 have HS:=z6 (a0.out.anchor ((zh.refl U1).alloc (.cells #[.string ⟨#[97]⟩,.string ⟨#[98]⟩,.string ⟨#[99]⟩,.string ⟨#[100]⟩,.string ⟨#[101]⟩] 9)) (H2:=fun b=>b<w.heap.size∨b=U1.heap.size) (fun b hb=>hb.imp id (by omega)) (fun b hb=> .inl hb) (fun b hb=>by
  have:=HK.out.size;simp;omega))
 have HC:Hid (∀i,i<5→(U1.alloc (.cells #[.string ⟨#[97]⟩,.string ⟨#[98]⟩,.string ⟨#[99]⟩,.string ⟨#[100]⟩,.string ⟨#[101]⟩] 9)).cell? ⟨U1.heap.size,i,none⟩=some (.string ⟨(R.bgItem i).toArray⟩)):=fun i hi=>by
  rcases(by omega:i=0∨i=1∨i=2∨i=3∨i=4)with rfl|rfl|rfl|rfl|rfl<;>simp<;>rfl
 have b3:=z6 (HK.out.alloc (.cells #[.string ⟨#[97]⟩,.string ⟨#[98]⟩,.string ⟨#[99]⟩,.string ⟨#[100]⟩,.string ⟨#[101]⟩] 9));clear HK a0;have b9:∀b,b<w.heap.size→b<w.heap.size∨b=U1.heap.size:=fun b hb=> .inl hb
 have c6:U1.heap.size<w.heap.size∨U1.heap.size=U1.heap.size:= .inr rfl;generalize b8:(fun b=>b<w.heap.size∨b=U1.heap.size)=HH at*;have b2:Hid (∀b,b<w.heap.size→HH b):=by subst b8;exact b9
 have b4:Hid (HH U1.heap.size):=by subst b8;exact c6
 clear b9 c6 b8;generalize U1.alloc (.cells #[.string ⟨#[97]⟩,.string ⟨#[98]⟩,.string ⟨#[99]⟩,.string ⟨#[100]⟩,.string ⟨#[101]⟩] 9)=A0 at*;generalize U1.heap.size=it at*;refine z7 hP a1 fun T d=> ?_
 have a0 :=z6 (HS.out.re T d);clear HS;generalize re A0 T d=U2 at*;go_wp2_with fail
 refine(P1.out _).mono ?_;rintro e W' ⟨rfl,hw⟩;replace hw:=hw.symm;subst hw;go_wp2;have HS:=z6 a0.out;clear a0;generalize hV:U2=V3 at*;clear hV;refine z7 hP a1 fun T d=> ?_
 have a0 :=z6 (HS.out.re T d);clear HS;generalize re V3 T d=U3 at*;go_wp2_with fail
 refine(P2.out _).mono ?_;rintro e W' ⟨rfl,hw⟩;replace hw:=hw.symm;subst hw;go_wp2;have HS:=z6 a0.out;clear a0;generalize hV:U3=V4 at*;clear hV;refine z7 hP a1 fun T d=> ?_
 have a0 :=z6 (HS.out.re T d);clear HS;generalize re V4 T d=U4 at*;go_wp2_with fail
 refine(P3.out _).mono ?_;rintro e W' ⟨rfl,hw⟩;replace hw:=hw.symm;subst hw;go_wp2;have HS:=z6 a0.out;clear a0;generalize hV:U4=V5 at*;clear hV;refine z7 hP a1 fun T d=> ?_
 have a0 :=z6 (HS.out.re T d);clear HS;generalize re V5 T d=U5 at*;go_wp2_with fail
 refine(a0.out.branch (by omega) [97] (by unfold maxLen;simp) Cv).mono ?_;rintro e V6 ⟨rfl,hs⟩;have HS:=z6 hs;clear a0 hs;go_wp2;refine z7 hP a1 fun T d=> ?_
 have a0 :=z6 (HS.out.re T d);clear HS;generalize re V6 T d=U6 at*;go_wp2_with fail
 refine(a0.out.add [97] [110] 1 (by unfold maxLen;simp) (by omega) (by omega) Cu).mono ?_;rintro e V7 ⟨rfl,hs⟩;have HS:=z6 hs;clear a0 hs;go_wp2;refine z7 hP a1 fun T d=> ?_
 have a0 :=z6 (HS.out.re T d);clear HS;generalize re V7 T d=U7 at*;go_wp2;go_loopw [15] (fun i wr=>∃k:Nat,k≤5∧i= .int .i64 k∧KS A0 HH B ((List.range k).foldl (R.bgPut f) R.bg1) (2+k) wr) (fun i _=>5-(intOf i).toNat)
 case atStart=>exact⟨0,Nat.zero_le _,rfl,a0.out⟩
 case round=>
  obtain⟨k,hk,rfl,hs⟩:=hrel;have HS:=z6 hs;clear hs a0;by_cases b1:k<5
  ·have e0:=(HS.out.held.cell (p:=⟨it,k,none⟩) b4.out).trans (HC.out k b1)
   have hb:=BF.out k b1;have HE:=z6 (Vy (R.bgPut f) R.bg1 (List.range k) k)
   cases a6:R.bit f k with
   |true=>
    rw[a6]at hb;go_wp2_with fail
    refine(HS.out.put [97] [98,97,103] (R.bgItem k) (by unfold maxLen;simp) (by unfold maxLen;simp[R.bgItem]) rfl).mono ?_;rintro e W5 ⟨rfl,hs⟩;have a5:=z6 hs;clear hs;go_wp2;refine⟨⟨k+1,by omega,by simp,?_⟩,by simp[intOf];omega⟩;rw[List.range_succ,HE.out,R.bgPut,a6,if_pos rfl];exact a5.out
   |false=>
    rw[a6]at hb;go_wp2;refine⟨⟨k+1,by omega,by simp,?_⟩,by simp[intOf];omega⟩;rw[List.range_succ,HE.out,R.bgPut,a6];exact HS.out.mono (by omega)
  ·have:k=5:=by omega
   subst this;go_wp2;refine z7 hP a1 fun T d=> ?_
   have a0 :=z6 (HS.out.re T d);clear HS;generalize re wr T d=U7 at*;go_wp2_with fail
   refine(a0.out.commit (by omega) [97] HF.out.c1).mono ?_;rintro e V8 ⟨rfl,hs⟩;have HS:=z6 hs;clear a0 hs;go_wp2;refine z7 hP a1 fun T d=> ?_
   have a0 :=z6 (HS.out.re T d);clear HS;generalize re V8 T d=U8 at*;go_wp2_with fail
   refine(a0.out.fork (by omega) [98] [97] (by unfold maxLen;simp) HF.out.d1).mono ?_;rintro e V9 ⟨rfl,hs⟩;have HS:=z6 hs;clear a0 hs;go_wp2;refine z7 hP a1 fun T d=> ?_
   have a0 :=z6 (HS.out.re T d);clear HS;generalize re V9 T d=U9 at*;go_wp2;have HS:=z6 a0.out;clear a0;generalize hV:U9=V10 at*;clear hV;refine z7 hP a1 fun T d=> ?_
   have a0 :=z6 (HS.out.re T d);clear HS;generalize re V10 T d=U10 at*;have a7:Hid (KS A0 HH B (gH f x y 0) 9 U10):=a0.out;clear a0;go_wp2;go_loopw [19] (fun i wr=>∃k:Nat,k≤2∧i= .int .i64 k∧KS A0 HH B (gH f x y k) (9+7*k) wr) (fun i _=>2-(intOf i).toNat)
   case atStart=>exact⟨0,Nat.zero_le _,rfl,a7.out⟩
   case round=>
    obtain⟨k,hk,rfl,hs⟩:=hrel;have HS:=z6 hs;clear hs a7;rcases(by omega:k=0∨k=1∨k=2)with rfl|rfl|rfl
    ·go_wp2_with fail
     refine(HS.out.add [97] [97] 1 (by unfold maxLen;simp) (by omega) (by omega) rfl).mono ?_;rintro e W5 ⟨rfl,hs⟩;have a5:=z6 hs;clear hs;go_wp2;go_loopw [22] (fun i wr=>∃j:Nat,j≤5∧i= .int .i64 j∧KS A0 HH B ((List.range j).foldl (R.bgTurn [97] x) (R.change (gH f x y 0) 35 [97] [97] 1 []).2) (9+7*0+1+j) wr) (fun i _=>5-(intOf i).toNat)
     case atStart=>exact⟨0,Nat.zero_le _,rfl,a5.out⟩
     case round=>
      obtain⟨j,hj,rfl,hs⟩:=hrel;have a2:=z6 hs;clear hs a5;by_cases b1:j<5
      ·have e0:=(a2.out.held.cell (p:=⟨it,j,none⟩) b4.out).trans (HC.out j b1)
       have hb:=BX.out j b1;have HE:=z6 (Vy (R.bgTurn [97] x) (R.change (gH f x y 0) 35 [97] [97] 1 []).2 (List.range j) j)
       cases a6:R.bit x j with
       |true=>
        rw[a6]at hb;go_wp2_with fail
        refine(a2.out.put [97] [98,97,103] (R.bgItem j) (by unfold maxLen;simp) (by unfold maxLen;simp[R.bgItem]) rfl).mono ?_;rintro e W6 ⟨rfl,hs⟩;have a3:=z6 hs;clear hs;go_wp2;refine⟨⟨j+1,by omega,by simp,?_⟩,by simp[intOf];omega⟩;rw[List.range_succ,HE.out,R.bgTurn,a6,if_pos rfl];exact a3.out
       |false=>
        rw[a6]at hb;go_wp2_with fail
        refine(a2.out.take [97] [98,97,103] (R.bgItem j) (by unfold maxLen;simp) (by unfold maxLen;simp[R.bgItem]) rfl).mono ?_;rintro e W6 ⟨rfl,hs⟩;have a3:=z6 hs;clear hs;go_wp2;refine⟨⟨j+1,by omega,by simp,?_⟩,by simp[intOf];omega⟩;rw[List.range_succ,HE.out,R.bgTurn,a6];exact a3.out
      ·have:j=5:=by omega
       subst this;go_wp2_with fail
       refine(a2.out.commit (by omega) [97] HF.out.e4).mono ?_;rintro e W6 ⟨rfl,hs⟩;have a3:=z6 hs;clear hs;go_wp2;exact⟨⟨0+1,by omega,rfl,a3.out⟩,by decide⟩
    ·go_wp2_with fail
     refine(HS.out.add [98] [98] 1 (by unfold maxLen;simp) (by omega) (by omega) rfl).mono ?_;rintro e W5 ⟨rfl,hs⟩;have a5:=z6 hs;clear hs;go_wp2;go_loopw [22] (fun i wr=>∃j:Nat,j≤5∧i= .int .i64 j∧KS A0 HH B ((List.range j).foldl (R.bgTurn [98] y) (R.change (gH f x y 1) 35 [98] [98] 1 []).2) (9+7*1+1+j) wr) (fun i _=>5-(intOf i).toNat)
     case atStart=>exact⟨0,Nat.zero_le _,rfl,a5.out⟩
     case round=>
      obtain⟨j,hj,rfl,hs⟩:=hrel;have a2:=z6 hs;clear hs a5;by_cases b1:j<5
      ·have e0:=(a2.out.held.cell (p:=⟨it,j,none⟩) b4.out).trans (HC.out j b1)
       have hb:=BY.out j b1;have HE:=z6 (Vy (R.bgTurn [98] y) (R.change (gH f x y 1) 35 [98] [98] 1 []).2 (List.range j) j)
       cases a6:R.bit y j with
       |true=>
        rw[a6]at hb;go_wp2_with fail
        refine(a2.out.put [98] [98,97,103] (R.bgItem j) (by unfold maxLen;simp) (by unfold maxLen;simp[R.bgItem]) rfl).mono ?_;rintro e W6 ⟨rfl,hs⟩;have a3:=z6 hs;clear hs;go_wp2;refine⟨⟨j+1,by omega,by simp,?_⟩,by simp[intOf];omega⟩;rw[List.range_succ,HE.out,R.bgTurn,a6,if_pos rfl];exact a3.out
       |false=>
        rw[a6]at hb;go_wp2_with fail
        refine(a2.out.take [98] [98,97,103] (R.bgItem j) (by unfold maxLen;simp) (by unfold maxLen;simp[R.bgItem]) rfl).mono ?_;rintro e W6 ⟨rfl,hs⟩;have a3:=z6 hs;clear hs;go_wp2;refine⟨⟨j+1,by omega,by simp,?_⟩,by simp[intOf];omega⟩;rw[List.range_succ,HE.out,R.bgTurn,a6];exact a3.out
      ·have:j=5:=by omega
       subst this;go_wp2_with fail
       refine(a2.out.commit (by omega) [98] HF.out.e5).mono ?_;rintro e W6 ⟨rfl,hs⟩;have a3:=z6 hs;clear hs;go_wp2;exact⟨⟨1+1,by omega,rfl,a3.out⟩,by decide⟩
    ·go_wp2
     refine zD hP ?_;refine Z6 hP 1 a1.thenT rfl rfl rfl Tryz.func19 (by decide) rfl fun T d=> ?_
     have a0 :=z6 (HS.out.re T d);clear HS;generalize re wr T d=U10 at*;go_wp2;refine⟨_,_,by simp[Act.eval],a0.out.joinE (by omega) [97] [98] (by simp) HF.out.j,?_⟩;rintro v V' ⟨rfl,hs⟩ T d;have HS:=z6 (hs.re T d);clear a0 hs;generalize re V' T d=V11 at*;clear V';go_wp2;refine z7 hP a1 fun T d=> ?_
     have a0 :=z6 (HS.out.re T d);clear HS;generalize re V11 T d=U11 at*;go_wp2_with fail
     refine(a0.out.show_ [97] HF.out.s).mono ?_;rintro e c7 ⟨rfl,hs⟩;have HS:=z6 hs;clear a0 hs;go_wp2;refine z7 hP a1 fun T d=> ?_
     have a0 :=z6 (HS.out.re T d);clear HS;generalize re c7 T d=U12 at*;go_wp2;have HS:=z6 a0.out;clear a0;generalize hV:U12=V13 at*;clear hV;refine z7 hP a1 fun T d=> ?_
     have a0 :=z6 (HS.out.re T d);clear HS;generalize re V13 T d=U13 at*;skip
     go_wp2;go_loop [29,30] (fun s i=>∃k:Nat,k≤5∧i= .int .i64 k∧s= .string ⟨(R.joinI (bgL (bgC f x y) k)).toArray⟩) (fun _ i=>5-(intOf i).toNat)
     case atStart=>exact⟨0,Nat.zero_le _,rfl,by rfl⟩
     case round=>
      obtain⟨k,hk,rfl,rfl⟩:=hrel;by_cases b1:k<5
      ·have e0:=(a0.out.held.cell (p:=⟨it,k,none⟩) b4.out).trans (HC.out k b1)
       have c9:=BF.out k b1;have d3:=BX.out k b1;have d4:=BY.out k b1;have hl:=xH (bgC f x y) k hk;have d5:(R.bgItem k).length=1:=rfl;have HM:=z6 fun h1=> @jg (bgC f x y) k h1
       have HE:=z6 fun h1=> @JZ (bgC f x y) k h1
       have HN:=z6 fun h1=> @JY (bgC f x y) k h1
       have b7:Hid (bgC f x y k=((R.bit x k&&R.bit y k)||((R.bit x k||R.bit y k)&& !R.bit f k))):=rfl;generalize R.joinI (bgL (bgC f x y) k)=acc at*;generalize R.bgItem k=im at*;generalize R.bit x k=bx at*;generalize R.bit y k=by_ at*;generalize R.bit f k=bf at*
       cases a8: !acc.isEmpty<;>cases bx<;>cases by_<;>cases bf<;>go_wp2<;>(refine⟨⟨k+1,by omega,by simp,?_⟩,by simp[intOf];omega⟩)<;>first
        |(rw[←HN.out b7.out];done)
        |(rw[←HE.out b7.out a8,←qM];done)
        |(rw[←HM.out b7.out a8,←qM,←qM];done)
      ·have:k=5:=by omega
       subst this;go_wp2;have b6:Hid (∀i,i<5→U13.cell? ⟨it,i,none⟩=some (.string ⟨(R.bgItem i).toArray⟩)):=fun i hi=>(a0.out.held.cell (p:=⟨it,i,none⟩) b4.out).trans (HC.out i hi)
       rcases Cj x y f with h|h|h|h|h|h
       ·subst h
        have HT:Hid (R.bgT f x x=R.bgList x):=by
         show _=_;unfold R.bgT;rw[if_pos rfl]
        have hl:(R.joinI (R.bgList x)).length≤6000:=xH (R.bit x) 5 (j0a _);have HE:Hid ((R.joinI (R.bgList x)).isEmpty=decide ((R.bgList x)=[])):=yH (R.bit x) 5;refine z7 hP a1 fun T d=> ?_
        have a5:=z6 (a0.out.re T d);have a4:Hid (∀i,i<5→(re U13 T d).cell? ⟨it,i,none⟩=some (.string ⟨(R.bgItem i).toArray⟩)):=fun i hi=>(a5.out.held.cell (p:=⟨it,i,none⟩) b4.out).trans (HC.out i hi)
        clear a0 b6;generalize re U13 T d=X0 at*;have b0:=z6 (qv x hx it X0 a4.out);go_wp2_with fail
        refine b0.out.mono ?_;clear b0;rintro e W' ⟨rfl,hw⟩;replace hw:=hw.symm;subst hw;go_wp2;have HW:Hid (R.bgW (R.bgT f x x)=[97,32,35,49,10,98,32,35,49,10]++((if(R.joinI (R.bgList x)).isEmpty then []else [98,97,103]++ [32,42]++R.joinI (R.bgList x)++ [10])++ [110,32,35,49,10])):=by
         show _=_;rw[HT.out,HE.out];unfold R.bgW R.bagN;simp only[decide_eq_true_eq]
        refine z7 hP a1 fun T d=> ?_
        have a7:=z6 (a5.out.re T d);clear a5 HE HT a4;generalize re X0 T d=X1 at*;go_wp2;refine z7 hP a1 fun T d=> ?_
        have a2:=z6 (a7.out.re T d);clear a7;generalize re X1 T d=X2 at*;generalize R.joinI (R.bgList x)=acc at*;generalize R.bgW (R.bgT f x x)=ww at*
        cases a8: !acc.isEmpty with
        |true=>
         go_wp2;refine z7 hP a1 fun T d=> ?_
         have a3:=z6 (a2.out.re T d);clear a2;generalize re X2 T d=X3 at*;go_wp2;refine Zo hP ?_;refine⟨rfl,_,fun W=>⟨by simp[results,Tryz.results8,go_sem],by simp[results,Tryz.results8,go_sem]⟩,⟨congrArg Value.bool (qL acc ww a8 HW.out),((b3.out.h (H:=fun b=>b<w.heap.size) fun _ hb=>hb).trans (a3.out.held.smaller b2.out)).m fun _ hb=>hb⟩⟩
        |false=>
         go_wp2;refine z7 hP a1 fun T d=> ?_
         have a3:=z6 (a2.out.re T d);clear a2;generalize re X2 T d=X3 at*;go_wp2;refine Zo hP ?_;refine⟨rfl,_,fun W=>⟨by simp[results,Tryz.results8,go_sem],by simp[results,Tryz.results8,go_sem]⟩,⟨congrArg Value.bool (xT acc ww a8 HW.out),((b3.out.h (H:=fun b=>b<w.heap.size) fun _ hb=>hb).trans (a3.out.held.smaller b2.out)).m fun _ hb=>hb⟩⟩
       ·obtain⟨h0,h⟩:=h
        subst h;have c0:((x:Int)==(y:Int))=false:=bqF h0;have HT:Hid (R.bgT x x y=R.bgList y):=by
         show _=_;unfold R.bgT;rw[if_neg h0,if_pos rfl]
        have hl:(R.joinI (R.bgList y)).length≤6000:=xH (R.bit y) 5 (j0a _);have HE:Hid ((R.joinI (R.bgList y)).isEmpty=decide ((R.bgList y)=[])):=yH (R.bit y) 5;refine z7 hP a1 fun T d=> ?_
        have a5:=z6 (a0.out.re T d);have a4:Hid (∀i,i<5→(re U13 T d).cell? ⟨it,i,none⟩=some (.string ⟨(R.bgItem i).toArray⟩)):=fun i hi=>(a5.out.held.cell (p:=⟨it,i,none⟩) b4.out).trans (HC.out i hi)
        clear a0 b6;generalize re U13 T d=X0 at*;have b0:=z6 (qv y hy it X0 a4.out);go_wp2_with fail
        refine b0.out.mono ?_;clear b0;rintro e W' ⟨rfl,hw⟩;replace hw:=hw.symm;subst hw;go_wp2;have HW:Hid (R.bgW (R.bgT x x y)=[97,32,35,49,10,98,32,35,49,10]++((if(R.joinI (R.bgList y)).isEmpty then []else [98,97,103]++ [32,42]++R.joinI (R.bgList y)++ [10])++ [110,32,35,49,10])):=by
         show _=_;rw[HT.out,HE.out];unfold R.bgW R.bagN;simp only[decide_eq_true_eq]
        refine z7 hP a1 fun T d=> ?_
        have a7:=z6 (a5.out.re T d);clear a5 HE HT a4;generalize re X0 T d=X1 at*;go_wp2;refine z7 hP a1 fun T d=> ?_
        have a2:=z6 (a7.out.re T d);clear a7;generalize re X1 T d=X2 at*;generalize R.joinI (R.bgList y)=acc at*;generalize R.bgW (R.bgT x x y)=ww at*
        cases a8: !acc.isEmpty with
        |true=>
         go_wp2;refine z7 hP a1 fun T d=> ?_
         have a3:=z6 (a2.out.re T d);clear a2;generalize re X2 T d=X3 at*;go_wp2;refine Zo hP ?_;refine⟨rfl,_,fun W=>⟨by simp[results,Tryz.results8,go_sem],by simp[results,Tryz.results8,go_sem]⟩,⟨congrArg Value.bool (qL acc ww a8 HW.out),((b3.out.h (H:=fun b=>b<w.heap.size) fun _ hb=>hb).trans (a3.out.held.smaller b2.out)).m fun _ hb=>hb⟩⟩
        |false=>
         go_wp2;refine z7 hP a1 fun T d=> ?_
         have a3:=z6 (a2.out.re T d);clear a2;generalize re X2 T d=X3 at*;go_wp2;refine Zo hP ?_;refine⟨rfl,_,fun W=>⟨by simp[results,Tryz.results8,go_sem],by simp[results,Tryz.results8,go_sem]⟩,⟨congrArg Value.bool (xT acc ww a8 HW.out),((b3.out.h (H:=fun b=>b<w.heap.size) fun _ hb=>hb).trans (a3.out.held.smaller b2.out)).m fun _ hb=>hb⟩⟩
       ·obtain⟨h0,h1,h⟩:=h
        subst h;have c0:((x:Int)==(y:Int))=false:=bqF h0;have HT:Hid (R.bgT y x y=R.bgList x):=by
         show _=_;unfold R.bgT;rw[if_neg h0,if_neg h1,if_pos rfl]
        have hl:(R.joinI (R.bgList x)).length≤6000:=xH (R.bit x) 5 (j0a _);have HE:Hid ((R.joinI (R.bgList x)).isEmpty=decide ((R.bgList x)=[])):=yH (R.bit x) 5;refine z7 hP a1 fun T d=> ?_
        have a5:=z6 (a0.out.re T d);have a4:Hid (∀i,i<5→(re U13 T d).cell? ⟨it,i,none⟩=some (.string ⟨(R.bgItem i).toArray⟩)):=fun i hi=>(a5.out.held.cell (p:=⟨it,i,none⟩) b4.out).trans (HC.out i hi)
        clear a0 b6;generalize re U13 T d=X0 at*;have b0:=z6 (qv x hx it X0 a4.out);go_wp2_with fail
        refine b0.out.mono ?_;clear b0;rintro e W' ⟨rfl,hw⟩;replace hw:=hw.symm;subst hw;go_wp2;have HW:Hid (R.bgW (R.bgT y x y)=[97,32,35,49,10,98,32,35,49,10]++((if(R.joinI (R.bgList x)).isEmpty then []else [98,97,103]++ [32,42]++R.joinI (R.bgList x)++ [10])++ [110,32,35,49,10])):=by
         show _=_;rw[HT.out,HE.out];unfold R.bgW R.bagN;simp only[decide_eq_true_eq]
        refine z7 hP a1 fun T d=> ?_
        have a7:=z6 (a5.out.re T d);clear a5 HE HT a4;generalize re X0 T d=X1 at*;go_wp2;refine z7 hP a1 fun T d=> ?_
        have a2:=z6 (a7.out.re T d);clear a7;generalize re X1 T d=X2 at*;generalize R.joinI (R.bgList x)=acc at*;generalize R.bgW (R.bgT y x y)=ww at*
        cases a8: !acc.isEmpty with
        |true=>
         go_wp2;refine z7 hP a1 fun T d=> ?_
         have a3:=z6 (a2.out.re T d);clear a2;generalize re X2 T d=X3 at*;go_wp2;refine Zo hP ?_;refine⟨rfl,_,fun W=>⟨by simp[results,Tryz.results8,go_sem],by simp[results,Tryz.results8,go_sem]⟩,⟨congrArg Value.bool (qL acc ww a8 HW.out),((b3.out.h (H:=fun b=>b<w.heap.size) fun _ hb=>hb).trans (a3.out.held.smaller b2.out)).m fun _ hb=>hb⟩⟩
        |false=>
         go_wp2;refine z7 hP a1 fun T d=> ?_
         have a3:=z6 (a2.out.re T d);clear a2;generalize re X2 T d=X3 at*;go_wp2;refine Zo hP ?_;refine⟨rfl,_,fun W=>⟨by simp[results,Tryz.results8,go_sem],by simp[results,Tryz.results8,go_sem]⟩,⟨congrArg Value.bool (xT acc ww a8 HW.out),((b3.out.h (H:=fun b=>b<w.heap.size) fun _ hb=>hb).trans (a3.out.held.smaller b2.out)).m fun _ hb=>hb⟩⟩
       ·obtain⟨h0,h1,h2,h⟩:=h
        subst h;have c0:((0:Int)==(y:Int))=false:=cr h0;have c1:((0:Int)==(f:Int))=false:=cr h1;have c2:((y:Int)==(f:Int))=false:=bqF h2;have HT:Hid (R.bgT f 0 y=R.bgList y):=by
         show _=_;unfold R.bgT;rw[if_neg h0,if_neg h1,if_neg h2,if_pos rfl]
        have hl:(R.joinI (R.bgList y)).length≤6000:=xH (R.bit y) 5 (j0a _);have HE:Hid ((R.joinI (R.bgList y)).isEmpty=decide ((R.bgList y)=[])):=yH (R.bit y) 5;refine z7 hP a1 fun T d=> ?_
        have a5:=z6 (a0.out.re T d);have a4:Hid (∀i,i<5→(re U13 T d).cell? ⟨it,i,none⟩=some (.string ⟨(R.bgItem i).toArray⟩)):=fun i hi=>(a5.out.held.cell (p:=⟨it,i,none⟩) b4.out).trans (HC.out i hi)
        clear a0 b6;generalize re U13 T d=X0 at*;have b0:=z6 (qv y hy it X0 a4.out);go_wp2_with fail
        refine b0.out.mono ?_;clear b0;rintro e W' ⟨rfl,hw⟩;replace hw:=hw.symm;subst hw;go_wp2;have HW:Hid (R.bgW (R.bgT f 0 y)=[97,32,35,49,10,98,32,35,49,10]++((if(R.joinI (R.bgList y)).isEmpty then []else [98,97,103]++ [32,42]++R.joinI (R.bgList y)++ [10])++ [110,32,35,49,10])):=by
         show _=_;rw[HT.out,HE.out];unfold R.bgW R.bagN;simp only[decide_eq_true_eq]
        refine z7 hP a1 fun T d=> ?_
        have a7:=z6 (a5.out.re T d);clear a5 HE HT a4;generalize re X0 T d=X1 at*;go_wp2;refine z7 hP a1 fun T d=> ?_
        have a2:=z6 (a7.out.re T d);clear a7;generalize re X1 T d=X2 at*;generalize R.joinI (R.bgList y)=acc at*;generalize R.bgW (R.bgT f 0 y)=ww at*
        cases a8: !acc.isEmpty with
        |true=>
         go_wp2;refine z7 hP a1 fun T d=> ?_
         have a3:=z6 (a2.out.re T d);clear a2;generalize re X2 T d=X3 at*;go_wp2;refine Zo hP ?_;refine⟨rfl,_,fun W=>⟨by simp[results,Tryz.results8,go_sem],by simp[results,Tryz.results8,go_sem]⟩,⟨congrArg Value.bool (qL acc ww a8 HW.out),((b3.out.h (H:=fun b=>b<w.heap.size) fun _ hb=>hb).trans (a3.out.held.smaller b2.out)).m fun _ hb=>hb⟩⟩
        |false=>
         go_wp2;refine z7 hP a1 fun T d=> ?_
         have a3:=z6 (a2.out.re T d);clear a2;generalize re X2 T d=X3 at*;go_wp2;refine Zo hP ?_;refine⟨rfl,_,fun W=>⟨by simp[results,Tryz.results8,go_sem],by simp[results,Tryz.results8,go_sem]⟩,⟨congrArg Value.bool (xT acc ww a8 HW.out),((b3.out.h (H:=fun b=>b<w.heap.size) fun _ hb=>hb).trans (a3.out.held.smaller b2.out)).m fun _ hb=>hb⟩⟩
       ·obtain⟨h0,h1,h2,h3,h⟩:=h
        subst h;have c0:((x:Int)==(0:Int))=false:=Fc h0;have c1:((x:Int)==(f:Int))=false:=bqF h1;have c2:((0:Int)==(f:Int))=false:=cr h2;have c3:((x:Int)==0)=false:=Fc h3;have HT:Hid (R.bgT f x 0=R.bgList x):=by
         show _=_;unfold R.bgT;rw[if_neg h0,if_neg h1,if_neg h2,if_neg h3,if_pos rfl]
        have hl:(R.joinI (R.bgList x)).length≤6000:=xH (R.bit x) 5 (j0a _);have HE:Hid ((R.joinI (R.bgList x)).isEmpty=decide ((R.bgList x)=[])):=yH (R.bit x) 5;refine z7 hP a1 fun T d=> ?_
        have a5:=z6 (a0.out.re T d);have a4:Hid (∀i,i<5→(re U13 T d).cell? ⟨it,i,none⟩=some (.string ⟨(R.bgItem i).toArray⟩)):=fun i hi=>(a5.out.held.cell (p:=⟨it,i,none⟩) b4.out).trans (HC.out i hi)
        clear a0 b6;generalize re U13 T d=X0 at*;have b0:=z6 (qv x hx it X0 a4.out);go_wp2_with fail
        refine b0.out.mono ?_;clear b0;rintro e W' ⟨rfl,hw⟩;replace hw:=hw.symm;subst hw;go_wp2;have HW:Hid (R.bgW (R.bgT f x 0)=[97,32,35,49,10,98,32,35,49,10]++((if(R.joinI (R.bgList x)).isEmpty then []else [98,97,103]++ [32,42]++R.joinI (R.bgList x)++ [10])++ [110,32,35,49,10])):=by
         show _=_;rw[HT.out,HE.out];unfold R.bgW R.bagN;simp only[decide_eq_true_eq]
        refine z7 hP a1 fun T d=> ?_
        have a7:=z6 (a5.out.re T d);clear a5 HE HT a4;generalize re X0 T d=X1 at*;go_wp2;refine z7 hP a1 fun T d=> ?_
        have a2:=z6 (a7.out.re T d);clear a7;generalize re X1 T d=X2 at*;generalize R.joinI (R.bgList x)=acc at*;generalize R.bgW (R.bgT f x 0)=ww at*
        cases a8: !acc.isEmpty with
        |true=>
         go_wp2;refine z7 hP a1 fun T d=> ?_
         have a3:=z6 (a2.out.re T d);clear a2;generalize re X2 T d=X3 at*;go_wp2;refine Zo hP ?_;refine⟨rfl,_,fun W=>⟨by simp[results,Tryz.results8,go_sem],by simp[results,Tryz.results8,go_sem]⟩,⟨congrArg Value.bool (qL acc ww a8 HW.out),((b3.out.h (H:=fun b=>b<w.heap.size) fun _ hb=>hb).trans (a3.out.held.smaller b2.out)).m fun _ hb=>hb⟩⟩
        |false=>
         go_wp2;refine z7 hP a1 fun T d=> ?_
         have a3:=z6 (a2.out.re T d);clear a2;generalize re X2 T d=X3 at*;go_wp2;refine Zo hP ?_;refine⟨rfl,_,fun W=>⟨by simp[results,Tryz.results8,go_sem],by simp[results,Tryz.results8,go_sem]⟩,⟨congrArg Value.bool (xT acc ww a8 HW.out),((b3.out.h (H:=fun b=>b<w.heap.size) fun _ hb=>hb).trans (a3.out.held.smaller b2.out)).m fun _ hb=>hb⟩⟩
       ·obtain⟨h0,h1,h2,h3,h4⟩:=h
        skip
        have c0:((x:Int)==(y:Int))=false:=bqF h0;have c1:((x:Int)==(f:Int))=false:=bqF h1;have c2:((y:Int)==(f:Int))=false:=bqF h2;have c3:((x:Int)==0)=false:=Fc h3;have c4:((y:Int)==0)=false:=Fc h4;have HT:Hid (R.bgT f x y=bgL (bgC f x y) 5):=by
         show _=_;unfold R.bgT;rw[if_neg h0,if_neg h1,if_neg h2,if_neg h3,if_neg h4];rfl
        have hl:(R.joinI (bgL (bgC f x y) 5)).length≤6000:=xH (bgC f x y) 5 (j0a _);have HE:Hid ((R.joinI (bgL (bgC f x y) 5)).isEmpty=decide ((bgL (bgC f x y) 5)=[])):=yH (bgC f x y) 5;refine z7 hP a1 fun T d=> ?_
        have a5:=z6 (a0.out.re T d);have a4:Hid (∀i,i<5→(re U13 T d).cell? ⟨it,i,none⟩=some (.string ⟨(R.bgItem i).toArray⟩)):=fun i hi=>(a5.out.held.cell (p:=⟨it,i,none⟩) b4.out).trans (HC.out i hi)
        clear a0 b6;generalize re U13 T d=X0 at*;go_wp2;have HW:Hid (R.bgW (R.bgT f x y)=[97,32,35,49,10,98,32,35,49,10]++((if(R.joinI (bgL (bgC f x y) 5)).isEmpty then []else [98,97,103]++ [32,42]++R.joinI (bgL (bgC f x y) 5)++ [10])++ [110,32,35,49,10])):=by
         show _=_;rw[HT.out,HE.out];unfold R.bgW R.bagN;simp only[decide_eq_true_eq]
        refine z7 hP a1 fun T d=> ?_
        have a7:=z6 (a5.out.re T d);clear a5 HE HT a4;generalize re X0 T d=X1 at*;go_wp2;refine z7 hP a1 fun T d=> ?_
        have a2:=z6 (a7.out.re T d);clear a7;generalize re X1 T d=X2 at*;generalize R.joinI (bgL (bgC f x y) 5)=acc at*;generalize R.bgW (R.bgT f x y)=ww at*
        cases a8: !acc.isEmpty with
        |true=>
         go_wp2;refine z7 hP a1 fun T d=> ?_
         have a3:=z6 (a2.out.re T d);clear a2;generalize re X2 T d=X3 at*;go_wp2;refine Zo hP ?_;refine⟨rfl,_,fun W=>⟨by simp[results,Tryz.results8,go_sem],by simp[results,Tryz.results8,go_sem]⟩,⟨congrArg Value.bool (qL acc ww a8 HW.out),((b3.out.h (H:=fun b=>b<w.heap.size) fun _ hb=>hb).trans (a3.out.held.smaller b2.out)).m fun _ hb=>hb⟩⟩
        |false=>
         go_wp2;refine z7 hP a1 fun T d=> ?_
         have a3:=z6 (a2.out.re T d);clear a2;generalize re X2 T d=X3 at*;go_wp2;refine Zo hP ?_;refine⟨rfl,_,fun W=>⟨by simp[results,Tryz.results8,go_sem],by simp[results,Tryz.results8,go_sem]⟩,⟨congrArg Value.bool (xT acc ww a8 HW.out),((b3.out.h (H:=fun b=>b<w.heap.size) fun _ hb=>hb).trans (a3.out.held.smaller b2.out)).m fun _ hb=>hb⟩⟩
end
