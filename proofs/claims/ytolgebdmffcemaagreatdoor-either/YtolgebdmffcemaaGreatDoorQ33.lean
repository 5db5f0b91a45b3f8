import Derived.Test.YtolgebdmffcemaaGreatDoorQ32
set_option linter.all false
set_option maxHeartbeats 20000000
set_option maxRecDepth 1000000
open Go.Proofs.Tryz renaming prog→rJ,func25→L7,ntmps25→L8,func23→LA,func19→LD,func36→LE,f36→LF,results36→LG
open Nat renaming le_of_not_lt→L9,reduceAdd→sF,reduceSub→sG,add_zero→eS,zero_le→sQ
open List renaming size_toArray→sE,length_cons→mC,length_nil→mS,push_toArray→sJ,append_toArray→sL,nil_append→mJ,cons_append→lN,range→lQ,getD_eq_getElem?_getD→iJ,take_succ_cons→IP,take_zero→IQ,drop_succ_cons→IR,drop_zero→IS
open Array renaming replicate_succ→sH,replicate_zero→sI
open Bool renaming false_eq_true→eL
namespace Go.Proofs.YtolgebdmffcemaaGreatDoor
open Go.RowKit Go Go.Conc
def YR (c n:Int):Int:=(if c<0 then-(c+1)else c) % n
theorem Vp (c n:Int)(h:0<n):0≤YR c n∧YR c n<n:=⟨Int.emod_nonneg _ (by omega),Int.emod_lt_of_pos _ h⟩
theorem Up (c n:Int)(w:World)(h1: -9223372036854775808≤c)(h2:c≤9223372036854775807)(hn:0<n)(a0:n≤9223372036854775807):
  Calls rJ 25 #[.int .i64 c,.int .i64 n] w fun e w' =>e= .returned (.int .i64 (YR c n))∧w' =w:=by
 by_cases hc:c<0
 ·have HP:Hid (YR c n=(-(c+1)).tmod n):=by
   show _=_;unfold YR;rw[if_pos hc,Int.tmod_eq_emod_of_nonneg (by omega)]
  go_enter L7,L8;go_wp2;go_ret;exact⟨YJ (by rw[HP.out,Int.neg_tmod]),rfl⟩
 ·have HP:Hid (YR c n=c % n):=by
   show _=_;unfold YR;rw[if_neg hc]
  go_enter L7,L8;go_wp2;go_ret;exact⟨YJ HP.out,rfl⟩
structure Yq (H:Nat→Prop)(w w' :World):Prop where
 os:w'.os=w.os
 output:w'.output=w.output
 size:w.heap.size≤w'.heap.size
 block:∀k,H k→w'.heap[k]? =w.heap[k]?
theorem Yq.refl (H:Nat→Prop)(w:World):Yq H w w:=⟨rfl,rfl,j0a _,fun _ _=>rfl⟩
theorem Yq.trans {H:Nat→Prop}{w w1 w2:World}(h:Yq H w w1)(h2:Yq H w1 w2):Yq H w w2:=⟨h2.os.trans h.os,h2.output.trans h.output,j0f h.size h2.size,fun k hk=>(h2.block k hk).trans (h.block k hk)⟩
theorem zf.h {w w' :World}(k:zf w w'){H:Nat→Prop}(hs:∀b,H b→b<w.heap.size):Yq H w w' :=⟨k.os,k.output,k.size,fun b hb=>k.block b (hs b hb)⟩
theorem Yq.m {H:Nat→Prop}{w w' :World}(h:Yq H w w')(hs:∀b,b<w.heap.size→H b):zf w w' :=⟨h.os,h.output,h.size,fun b hb=>h.block b (hs b hb)⟩
theorem Yq.cell {H:Nat→Prop}{w w' :World}(h:Yq H w w'){p:Addr}(hp:H p.block):w'.cell? p=w.cell? p:=World.cell?_of_block (w:=w) (h.block _ hp)
def KS (w0:World)(H:Nat→Prop)(B:Nat)(st:R.St)(c:Nat)(w:World):Prop:=∃O:Nat→Prop,PS w O O B st∧(∀b,O b→¬H b∧b<w.heap.size)∧Inv st∧st.packed.length≤300000*c∧Zy w∧Yq H w0 w∧(∀b,b<6→H b)∧(∀b,H b→b<w.heap.size)
section
variable {w0 w w' :World}{H:Nat→Prop}{B c:Nat}{st st' :R.St}
theorem KS.inv (h:KS w0 H B st c w):Inv st:=by obtain⟨O,_,_,h,_⟩:=h;exact h
theorem KS.held (h:KS w0 H B st c w):Yq H w0 w:=by obtain⟨O,_,_,_,_,_,h,_⟩:=h;exact h
theorem KS.keptM (h:KS w0 H B st c w)(k:zf w w'):KS w0 H B st c w' :=by
 obtain⟨O,⟨bv,cv,LB,LCm,h1⟩,h2,h3,h4,h5,h6,h7,h8⟩:=h;exact⟨O,⟨bv,cv,LB,LCm,h1.keptM k⟩,fun b hb=>⟨(h2 b hb).1,j0b (h2 b hb).2 k.size⟩,h3,h4,h5.keptM k,h6.trans (k.h h8),h7,fun b hb=>j0b (h8 b hb) k.size⟩
theorem KS.re (h:KS w0 H B st c w)(T:Nat→Question→Nat)(d:Nat):KS w0 H B st c (Go.Proofs.YtolgebdmffcemaaGreatDoor.re w T d):=h.keptM ((zf.refl w).re T d)
theorem KS.mono (h:KS w0 H B st c w){c' :Nat}(hc:c≤c'):KS w0 H B st c' w:=by
 obtain⟨O,h1,h2,h3,h4,h5⟩:=h;exact⟨O,h1,h2,h3,by omega,h5⟩
theorem GA {O:Nat→Prop}(h2:∀b,O b→¬H b∧b<w.heap.size)(hG:Zy w)(hb:Yq H w0 w)(h6:∀b,b<6→H b)(h8:∀b,H b→b<w.heap.size)(h:ZT w w' O O B st')(hi:Inv st')(hp:st'.packed.length≤300000*c):KS w0 H B st' c w' :=by
 obtain⟨O',p1,p2,p3⟩:=h;have hO:∀b,O' b→¬H b:=fun b hb he=>by
  rcases p3 b hb with h|h
  ·exact(h2 b h).1 he
  ·have:=h8 b he;omega
 obtain⟨bv,cv,LB,LCm,hx⟩:=p1;refine⟨O',PS.smaller ⟨bv,cv,LB,LCm,hx⟩ (fun b hb=> .inr hb) (fun b hb=>hb),fun b hb=>⟨hO b hb,hx.lt b hb⟩,hi,hp,?_,?_,h6,fun b hb=>j0b (h8 b hb) p2.size⟩
 ·have hk:ze O w (Go.Proofs.YtolgebdmffcemaaGreatDoor.re w' w.tape w'.drawn):=⟨p2.os,rfl,p2.output,p2.size,p2.block⟩
  have:=(hG.kept hk (fun b hb=>by
   apply L9;intro e;exact(h2 b hb).1 (h6 b e))).re w'.tape w'.drawn
  exact this
 ·exact hb.trans ⟨p2.os,p2.output,p2.size,fun k hk=>p2.block k (h8 k hk) (fun e=>(h2 k e).1 hk)⟩
theorem KS.six {O:Nat→Prop}(h2:∀b,O b→¬H b∧b<w.heap.size)(h6:∀b,b<6→H b):∀b,O b→6≤b:=fun b hb=>L9 fun e=>(h2 b hb).1 (h6 b e)
theorem KS.call (h:KS w0 H B st c w){f:FuncId}{args:Array Value}{v:Value}(a0 :Inv st')(a1 :st'.packed.length≤st.packed.length+300000)
  (hc:∀O:Nat→Prop,PS w O O B st→(∀b,O b→b<w.heap.size)→(∀b,O b→6≤b)→Inv st→Zy w→st.packed.length≤300000*c→Calls rJ f args w fun e w' =>e= .returned v∧zv w w' O O B st'):
  Calls rJ f args w fun e w' =>e= .returned v∧KS w0 H B st' (c+1) w' :=by
 obtain⟨O,h1,h2,h3,h4,h5,h6,h7,h8⟩:=h;refine(hc O h1 (fun b hb=>(h2 b hb).2) (KS.six h2 h7) h3 h5 h4).mono fun e w' ⟨e1,e2⟩=>⟨e1,GA h2 h5 h6 h7 h8 (ZT.of (zf.refl w) e2) a0 (by omega)⟩
theorem KS.look (h:KS w0 H B st c w){f:FuncId}{args:Array Value}{v:Value}
  (hc:∀O:Nat→Prop,PS w O O B st→Inv st→Zy w→Calls rJ f args w fun e w' =>e= .returned v∧Below w.heap.size w w'):
  Calls rJ f args w fun e w' =>e= .returned v∧KS w0 H B st c w' :=by
 obtain⟨O,h1,h2,h3,h4,h5,h6⟩:=id h;exact(hc O h1 h3 h5).mono fun e w' ⟨e1,e2⟩=>⟨e1,h.keptM (zf.of_below e2)⟩
def bN (w0:World)(H:Nat→Prop)(B c:Nat)(r:(Int×Int)×R.St)(v:Value)(w' :World):Prop:=v= .tuple #[.int .i64 r.1.1,.int .i64 r.1.2]∧KS w0 H B r.2 c w'
theorem KS.join (h:KS w0 H B st c w)(hc:c≤300000)(a0 fr:List UInt8)(a1:a0.length≤1000):
  zO rJ 19 #[.pointer (some ⟨B,0,none⟩),.string ⟨a0.toArray⟩,.string ⟨fr.toArray⟩] w (bN w0 H B (c+1) (R.joinB st a0 fr)):=by
 obtain⟨O,h1,h2,h3,h4,h5,h6,h7,h8⟩:=h;refine(Fv h3 h1 (fun b hb=>(h2 b hb).2) h5 (KS.six h2 h7) (by omega) a0 fr a1).mono fun v w' ⟨e1,e2⟩=>⟨e1,GA h2 h5 h6 h7 h8 e2 (QA h3 a0 fr) ?_⟩
 have:=VT h3 a0 fr;omega
def bP (w0:World)(H:Nat→Prop)(B c:Nat)(st:R.St)(r:List UInt8×Int)(v:Value)(w' :World):Prop:=v= .tuple #[.string ⟨r.1.toArray⟩,.int .i64 r.2]∧KS w0 H B st c w'
theorem KS.base (h:KS w0 H B st c w)(a b:Int):
  zO rJ 35 #[.pointer (some ⟨B,0,none⟩),.int .i64 a,.int .i64 b] w (bP w0 H B c st (R.baseAt st a b)):=by
 obtain⟨O,h1,h2,h3,h4,h5,h6⟩:=id h;exact(bW h3 h1 (fun b hb=>(h2 b hb).2) h5 a b).mono fun v w' ⟨e1,e2⟩=>⟨e1,h.keptM e2⟩
end
section
variable {w0 w:World}{H:Nat→Prop}{B c:Nat}{st:R.St}
theorem KS.branch (h:KS w0 H B st c w)(hc:c≤300000)(name:List UInt8)(a0:name.length≤maxLen){r:Int}(hr:(R.made st name [] false).1=r):
  Calls rJ 26 #[.pointer (some ⟨B,0,none⟩),.string ⟨name.toArray⟩] w fun e w' =>e= .returned (.int .i64 r)∧KS w0 H B (R.made st name [] false).2 (c+1) w' :=by
 subst hr;exact h.call (Q4 h.inv _ _ _) (by have:=Kn st name [] false;omega) fun O h1 h2 h3 h4 h5 h6=>cN B st name w O O h1 h4 a0 (by omega)
theorem KS.fork (h:KS w0 H B st c w)(hc:c≤300000)(name fr:List UInt8)(a0:name.length≤maxLen){r:Int}(hr:(R.made st name fr true).1=r):
  Calls rJ 29 #[.pointer (some ⟨B,0,none⟩),.string ⟨name.toArray⟩,.string ⟨fr.toArray⟩] w fun e w' =>e= .returned (.int .i64 r)∧KS w0 H B (R.made st name fr true).2 (c+1) w' :=by
 subst hr;exact h.call (Q4 h.inv _ _ _) (by have:=Kn st name fr true;omega) fun O h1 h2 h3 h4 h5 h6=>Bq B st name fr w O O h1 h4 a0 (by omega)
theorem KS.add (h:KS w0 H B st c w)(a0 path:List UInt8)(n:Int)(a3:path.length≤maxLen)(a1:n≤9223372036854775807)(a2: -9223372036854775808≤n){r:Int}(hr:(R.change st 35 a0 path n []).1=r):
  Calls rJ 27 #[.pointer (some ⟨B,0,none⟩),.string ⟨a0.toArray⟩,.string ⟨path.toArray⟩,.int .i64 n] w fun e w' =>e= .returned (.int .i64 r)∧KS w0 H B (R.change st 35 a0 path n []).2 (c+1) w' :=by
 subst hr;exact h.call (Y2 h.inv _ _ _ _ _ (by simp)) (by rw[yP];omega) fun O h1 h2 h3 h4 h5 h6=>d6 B st a0 path n w O O h1 h2 h4 h5 a3 a1 a2
theorem KS.note (h:KS w0 H B st c w)(a0 path text:List UInt8)(a1:path.length≤maxLen)(a2:text.length≤maxLen){r:Int}(hr:(R.change st 61 a0 path 0 text).1=r):
  Calls rJ 41 #[.pointer (some ⟨B,0,none⟩),.string ⟨a0.toArray⟩,.string ⟨path.toArray⟩,.string ⟨text.toArray⟩] w fun e w' =>e= .returned (.int .i64 r)∧KS w0 H B (R.change st 61 a0 path 0 text).2 (c+1) w' :=by
 subst hr;exact h.call (Y2 h.inv _ _ _ _ _ (by simp)) (by rw[yP];omega) fun O h1 h2 h3 h4 h5 h6=>Bo B st a0 path text w O O h1 h2 h4 h5 a1 a2
theorem KS.put (h:KS w0 H B st c w)(a0 path text:List UInt8)(a1:path.length≤maxLen)(a2:text.length≤maxLen){r:Int}(hr:(R.change st 42 a0 path 0 text).1=r):
  Calls rJ 31 #[.pointer (some ⟨B,0,none⟩),.string ⟨a0.toArray⟩,.string ⟨path.toArray⟩,.string ⟨text.toArray⟩] w fun e w' =>e= .returned (.int .i64 r)∧KS w0 H B (R.change st 42 a0 path 0 text).2 (c+1) w' :=by
 subst hr;exact h.call (Y2 h.inv _ _ _ _ _ (by simp)) (by rw[yP];omega) fun O h1 h2 h3 h4 h5 h6=>d5 B st a0 path text w O O h1 h2 h4 h5 a1 a2
theorem KS.take (h:KS w0 H B st c w)(a0 path text:List UInt8)(a1:path.length≤maxLen)(a2:text.length≤maxLen){r:Int}(hr:(R.change st 45 a0 path 0 text).1=r):
  Calls rJ 32 #[.pointer (some ⟨B,0,none⟩),.string ⟨a0.toArray⟩,.string ⟨path.toArray⟩,.string ⟨text.toArray⟩] w fun e w' =>e= .returned (.int .i64 r)∧KS w0 H B (R.change st 45 a0 path 0 text).2 (c+1) w' :=by
 subst hr;exact h.call (Y2 h.inv _ _ _ _ _ (by simp)) (by rw[yP];omega) fun O h1 h2 h3 h4 h5 h6=>Bl B st a0 path text w O O h1 h2 h4 h5 a1 a2
theorem KS.commit (h:KS w0 H B st c w)(hc:c≤300000)(name:List UInt8){r:Int×Int}(hr:(R.commit st name).1=r):
  Calls rJ 28 #[.pointer (some ⟨B,0,none⟩),.string ⟨name.toArray⟩] w fun e w' =>e= .returned (.tuple #[.int .i64 r.1,.int .i64 r.2])∧KS w0 H B (R.commit st name).2 (c+1) w' :=by
 subst hr;exact h.call (YB h.inv _) (JF h.inv name) fun O h1 h2 h3 h4 h5 h6=>cM B st name w O O h1 h4 h2 (by omega) h5 h3
theorem KS.show_ (h:KS w0 H B st c w)(name:List UInt8){r:List UInt8×Int}(hr:R.shown st name=r):
  Calls rJ 20 #[.pointer (some ⟨B,0,none⟩),.string ⟨name.toArray⟩] w fun e w' =>e= .returned (.tuple #[.string ⟨r.1.toArray⟩,.int .i64 r.2])∧KS w0 H B st c w' :=by
 subst hr;exact h.look fun O h1 h4 h5=>cK B st name w O O h1 h4 h5
end
def aw0:R.St:={cms:=[],brs:=[],packed:=[]}
def aw1:R.St:=(R.made aw0 [97] [] false).2
def aw2:R.St:=(R.change aw1 35 [97] [120,47,110] 5 []).2
def aw3:R.St:=(R.change aw2 61 [97] [120] 0 [104,105]).2
def aw4:R.St:=(R.commit aw3 [97]).2
def aw5:R.St:=(R.commit aw4 [97]).2
def aw6:R.St:=(R.made aw5 [98] [97] true).2
def aw7:R.St:=(R.change aw6 35 [98] [120,47,110] 2 []).2
def aw8:R.St:=(R.change aw7 42 [98] [115] 0 [112]).2
def aw9:R.St:=(R.commit aw8 [98]).2
def awa:R.St:=(R.change aw9 35 [97] [120,47,110] (-1) []).2
def awb:R.St:=(R.change awa 42 [97] [115] 0 [113]).2
def awc:R.St:=(R.commit awb [97]).2
def awd:R.St:=(R.joinB awc [97] [98]).2
def awe:R.St:=(R.joinB awd [98] [97]).2
theorem ae1:(R.made aw0 [97] [] false).1=0:=by decide+kernel
theorem ae2:(R.change aw1 35 [97] [120,47,110] 5 []).1=0:=by decide+kernel
theorem ae3:R.shown aw2 [97]=([120,47,110,32,35,53,10],0):=by decide+kernel
theorem ae4:(R.change aw2 61 [97] [120] 0 [104,105]).1=7:=by decide+kernel
theorem ae5:(R.commit aw3 [97]).1=(1,0):=by decide+kernel
theorem ae6:(R.commit aw4 [97]).1=(0,9):=by decide+kernel
theorem ae7:(R.made aw5 [98] [97] true).1=0:=by decide+kernel
theorem ae8:(R.change aw6 35 [98] [120,47,110] 2 []).1=0:=by decide+kernel
theorem ae9:(R.change aw7 42 [98] [115] 0 [112]).1=0:=by decide+kernel
theorem aea:(R.commit aw8 [98]).1=(2,0):=by decide+kernel
theorem aeb:(R.change aw9 35 [97] [120,47,110] (-1) []).1=0:=by decide+kernel
theorem aec:(R.change awa 42 [97] [115] 0 [113]).1=0:=by decide+kernel
theorem aed:(R.commit awb [97]).1=(3,0):=by decide+kernel
theorem aee:(R.joinB awc [97] [98]).1=(4,0):=by decide+kernel
theorem aef:R.shown awd [97]=([115,32,42,112,59,113,10,120,47,110,32,35,54,10],0):=by decide+kernel
theorem aeg:(R.joinB awd [98] [97]).1=(4,0):=by decide+kernel
theorem aeh:R.baseAt awe 2 3=([120,47,110,32,35,53,10],0):=by decide+kernel
theorem KS.new {w0 w:World}{H:Nat→Prop}(hG:Zy w)(hb:Yq H w0 w)(h6:∀b,b<6→H b)(h8:∀b,H b→b<w.heap.size):KS w0 H w.heap.size aw0 0 (w.alloc (.cells #[.slice none 0 0,.slice none 0 0,.slice none 0 0] 102)):=by
 have a0:=(j0g w.heap.size w).alloc (j0a _) (.cells #[.slice none 0 0,.slice none 0 0,.slice none 0 0] 102);refine⟨fun b=>b=w.heap.size,bL (heap_alloc_new w _) rfl,fun b hb=>⟨fun e=>by have:=h8 b e;omega,by simp;omega⟩,Inv.no,by simp[aw0],hG.below a0,hb.trans ((zf.of_below a0).h h8),h6,fun b hb=>by have:=h8 b hb;simp;omega⟩
def AwR (w:World)(v:Value)(w' :World):Prop:=v= .bool true∧zf w w'
theorem KS.kept {w:World}{B c:Nat}{st:R.St}{w' :World}(h:KS w (fun b=>b<w.heap.size) B st c w'):zf w w' :=h.held.m fun _ hb=>hb
theorem KS.joinE {w0 w:World}{H:Nat→Prop}{B c:Nat}{st:R.St}(h:KS w0 H B st c w)(hc:c≤300000)(a0 fr:List UInt8)(a1:a0.length≤1000){r:Int×Int}(hr:(R.joinB st a0 fr).1=r):
  zO rJ 19 #[.pointer (some ⟨B,0,none⟩),.string ⟨a0.toArray⟩,.string ⟨fr.toArray⟩] w (bN w0 H B (c+1) (r,(R.joinB st a0 fr).2)):=by
 subst hr;exact h.join hc a0 fr a1
theorem KS.baseE {w0 w:World}{H:Nat→Prop}{B c:Nat}{st:R.St}(h:KS w0 H B st c w)(a b:Int){r:List UInt8×Int}(hr:R.baseAt st a b=r):
  zO rJ 35 #[.pointer (some ⟨B,0,none⟩),.int .i64 a,.int .i64 b] w (bP w0 H B c st r):=by
 subst hr;exact h.base a b
section
theorem CU {w:World}(hG:Zy w)(h6:6≤w.heap.size):zO rJ 23 #[] w (AwR w):=by
 have hP:=xT;refine zS hP LA rfl ?_;have a1:ReC (zZ rJ Tryz.f23 (AwR w)):=ReC.body fun v w' T d ⟨h1,h2⟩=>⟨h1,h2.re T d⟩
 simp only[Tryz.ntmps23,sE,mC,mS,sF,sG,sH,sI,sJ,sL,mJ,lN];refine z7 hP a1 fun T d=> ?_
 have HG:=z6 (hG.keptM ((zf.refl w).re T d));have HB:=z6 ((zf.refl w).re T d);have a2:w.heap.size≤(re w T d).heap.size:=j0a _;generalize re w T d=W at*;go_wp2;refine z7 hP a1 fun T d=> ?_
 have HK:=HB.out.re T d;have HS:=z6 (KS.new (w:=re W T d) (H:=fun b=>b<w.heap.size) (hG.keptM HK) (HK.h fun _ hb=>hb) (fun b hb=>by omega) (fun b hb=>j0b hb a2));clear HK;clear HG HB a2;generalize re W T d=W1 at*;go_wp2_with fail
 refine(GI W1).mono ?_;rintro e W2 ⟨rfl,rfl⟩;go_wp2;generalize W1.alloc (.cells #[.slice none 0 0,.slice none 0 0,.slice none 0 0] 102)=V0 at*;generalize W1.heap.size=B at*;refine z7 hP a1 fun T d=> ?_
 have a0 :=z6 (HS.out.re T d);clear HS;generalize re V0 T d=U0 at*;go_wp2;have HS:=z6 a0.out;clear a0;generalize hV:U0=V1 at*;clear hV;refine z7 hP a1 fun T d=> ?_
 have a0 :=z6 (HS.out.re T d);clear HS;generalize re V1 T d=U1 at*;go_wp2_with fail
 refine(a0.out.branch (by omega) [97] (by unfold maxLen;simp) ae1).mono ?_;rintro e V2 ⟨rfl,hs⟩;have HS:=z6 hs;clear a0 hs;go_wp2;refine z7 hP a1 fun T d=> ?_
 have a0 :=z6 (HS.out.re T d);clear HS;generalize re V2 T d=U2 at*;go_wp2_with fail
 refine(a0.out.add [97] [120,47,110] 5 (by unfold maxLen;simp) (by omega) (by omega) ae2).mono ?_;rintro e V3 ⟨rfl,hs⟩;have HS:=z6 hs;clear a0 hs;go_wp2;refine z7 hP a1 fun T d=> ?_
 have a0 :=z6 (HS.out.re T d);clear HS;generalize re V3 T d=U3 at*;go_wp2_with fail
 refine(a0.out.show_ [97] ae3).mono ?_;rintro e V4 ⟨rfl,hs⟩;have HS:=z6 hs;clear a0 hs;go_wp2;refine z7 hP a1 fun T d=> ?_
 have a0 :=z6 (HS.out.re T d);clear HS;generalize re V4 T d=U4 at*;go_wp2_with fail
 refine(a0.out.note [97] [120] [104,105] (by unfold maxLen;simp) (by unfold maxLen;simp) ae4).mono ?_;rintro e V5 ⟨rfl,hs⟩;have HS:=z6 hs;clear a0 hs;go_wp2;refine z7 hP a1 fun T d=> ?_
 have a0 :=z6 (HS.out.re T d);clear HS;generalize re V5 T d=U5 at*;go_wp2_with fail
 refine(a0.out.commit (by omega) [97] ae5).mono ?_;rintro e V6 ⟨rfl,hs⟩;have HS:=z6 hs;clear a0 hs;go_wp2;refine z7 hP a1 fun T d=> ?_
 have a0 :=z6 (HS.out.re T d);clear HS;generalize re V6 T d=U6 at*;go_wp2_with fail
 refine(a0.out.commit (by omega) [97] ae6).mono ?_;rintro e V7 ⟨rfl,hs⟩;have HS:=z6 hs;clear a0 hs;go_wp2;refine z7 hP a1 fun T d=> ?_
 have a0 :=z6 (HS.out.re T d);clear HS;generalize re V7 T d=U7 at*;go_wp2;have HS:=z6 a0.out;clear a0;generalize hV:U7=V8 at*;clear hV;refine z7 hP a1 fun T d=> ?_
 have a0 :=z6 (HS.out.re T d);clear HS;generalize re V8 T d=U8 at*;go_wp2_with fail
 refine(a0.out.fork (by omega) [98] [97] (by unfold maxLen;simp) ae7).mono ?_;rintro e V9 ⟨rfl,hs⟩;have HS:=z6 hs;clear a0 hs;go_wp2;refine z7 hP a1 fun T d=> ?_
 have a0 :=z6 (HS.out.re T d);clear HS;generalize re V9 T d=U9 at*;go_wp2_with fail
 refine(a0.out.add [98] [120,47,110] 2 (by unfold maxLen;simp) (by omega) (by omega) ae8).mono ?_;rintro e a3 ⟨rfl,hs⟩;have HS:=z6 hs;clear a0 hs;go_wp2;refine z7 hP a1 fun T d=> ?_
 have a0 :=z6 (HS.out.re T d);clear HS;generalize re a3 T d=U10 at*;go_wp2_with fail
 refine(a0.out.put [98] [115] [112] (by unfold maxLen;simp) (by unfold maxLen;simp) ae9).mono ?_;rintro e a4 ⟨rfl,hs⟩;have HS:=z6 hs;clear a0 hs;go_wp2;refine z7 hP a1 fun T d=> ?_
 have a0 :=z6 (HS.out.re T d);clear HS;generalize re a4 T d=U11 at*;go_wp2_with fail
 refine(a0.out.commit (by omega) [98] aea).mono ?_;rintro e a5 ⟨rfl,hs⟩;have HS:=z6 hs;clear a0 hs;go_wp2;refine z7 hP a1 fun T d=> ?_
 have a0 :=z6 (HS.out.re T d);clear HS;generalize re a5 T d=U12 at*;go_wp2_with fail
 refine(a0.out.add [97] [120,47,110] (-1) (by unfold maxLen;simp) (by omega) (by omega) aeb).mono ?_;rintro e a6 ⟨rfl,hs⟩;have HS:=z6 hs;clear a0 hs;go_wp2;refine z7 hP a1 fun T d=> ?_
 have a0 :=z6 (HS.out.re T d);clear HS;generalize re a6 T d=U13 at*;go_wp2_with fail
 refine(a0.out.put [97] [115] [113] (by unfold maxLen;simp) (by unfold maxLen;simp) aec).mono ?_;rintro e a7 ⟨rfl,hs⟩;have HS:=z6 hs;clear a0 hs;go_wp2;refine z7 hP a1 fun T d=> ?_
 have a0 :=z6 (HS.out.re T d);clear HS;generalize re a7 T d=U14 at*;go_wp2_with fail
 refine(a0.out.commit (by omega) [97] aed).mono ?_;rintro e a8 ⟨rfl,hs⟩;have HS:=z6 hs;clear a0 hs;go_wp2;refine z7 hP a1 fun T d=> ?_
 have a0 :=z6 (HS.out.re T d);clear HS;generalize re a8 T d=U15 at*;go_wp2;have HS:=z6 a0.out;clear a0;generalize hV:U15=V16 at*;clear hV;refine zw hP ?_;refine zN hP 1 a1.thenT rfl rfl rfl LD (by decide) rfl fun T d=> ?_
 have a0 :=z6 (HS.out.re T d);clear HS;generalize re V16 T d=U16 at*;go_wp2;refine⟨_,_,by simp[Act.eval],a0.out.joinE (by omega) [97] [98] (by simp) aee,?_⟩;rintro v V' ⟨rfl,hs⟩ T d;have HS:=z6 (hs.re T d);clear a0 hs;generalize re V' T d=V17 at*;clear V';go_wp2;refine z7 hP a1 fun T d=> ?_
 have a0 :=z6 (HS.out.re T d);clear HS;generalize re V17 T d=U17 at*;go_wp2_with fail
 refine(a0.out.show_ [97] aef).mono ?_;rintro e a9 ⟨rfl,hs⟩;have HS:=z6 hs;clear a0 hs;go_wp2;refine zw hP ?_;refine zN hP 1 a1.thenT rfl rfl rfl LD (by decide) rfl fun T d=> ?_
 have a0 :=z6 (HS.out.re T d);clear HS;generalize re a9 T d=U18 at*;go_wp2;refine⟨_,_,by simp[Act.eval],a0.out.joinE (by omega) [98] [97] (by simp) aeg,?_⟩;rintro v V' ⟨rfl,hs⟩ T d;have HS:=z6 (hs.re T d);clear a0 hs;generalize re V' T d=V19 at*;clear V';go_wp2;refine zw hP ?_;refine zN hP 1 a1.thenT rfl rfl rfl Tryz.func35 (by decide) rfl fun T d=> ?_
 have a0 :=z6 (HS.out.re T d);clear HS;generalize re V19 T d=U19 at*;go_wp2;refine⟨_,_,by simp[Act.eval],a0.out.baseE 2 3 aeh,?_⟩;rintro v V' ⟨rfl,hs⟩ T d;have HS:=z6 (hs.re T d);clear a0 hs;generalize re V' T d=V20 at*;clear V';go_wp2;refine z7 hP a1 fun T d=> ?_
 have a0 :=z6 (HS.out.re T d);clear HS;generalize re V20 T d=U20 at*;go_wp2;refine qa hP ?_;refine⟨rfl,_,fun W=> ?_,⟨rfl,a0.out.kept⟩⟩;simp[results,Tryz.results23,go_sem]
end
def bgL (c:Nat→Bool)(k:Nat):List (List UInt8):=((lQ k).filter c).map R.bgItem

theorem Gr (c n:Int):R.pk_ c n=YR c n:=rfl
def UI:Obj:= .cells #[.string ⟨#[97]⟩,.string ⟨#[98]⟩,.string ⟨#[99]⟩] 9
theorem Q6 (c:Int)(w:World)(h1: -9223372036854775808≤c)(h2:c≤9223372036854775807):
  Calls rJ 18 #[.int .i64 c] w fun e w' =>e= .returned (.string ⟨(R.brN c).toArray⟩)∧w' =w.alloc UI:=by
 obtain⟨p1,p2⟩:=Vp c 3 (by decide);obtain⟨i,hi⟩:∃i:Nat,YR c 3=(i:Int):=⟨(YR c 3).toNat,by omega⟩
 have HP:Hid (∀W:World,Calls rJ 25 #[.int .i64 c,.int .i64 3] W fun e w' =>e= .returned (.int .i64 (i:Int))∧w' =W):=fun W=>by
  have:=Up c 3 W h1 h2 (by decide) (by decide);rw[hi]at this;exact this
 have a0:i<3:=by omega
 have e0:(w.alloc (.cells #[.string ⟨#[97]⟩,.string ⟨#[98]⟩,.string ⟨#[99]⟩] 9)).cell? ⟨w.heap.size,i,none⟩=some (.string ⟨(R.brN c).toArray⟩):=by
  unfold R.brN;rw[Gr,hi];clear hi HP p1 p2;rcases(by omega:i=0∨i=1∨i=2)with rfl|rfl|rfl<;>simp<;>rfl
 clear hi p1 p2;go_enter Tryz.func18,Tryz.ntmps18;go_wp2_with fail
 refine(HP.out _).mono ?_;rintro e W' ⟨rfl,hw⟩;subst hw;go_wp2;go_ret;exact⟨YI rfl,rfl⟩
def G9:Obj:= .cells #[.string ⟨#[110]⟩,.string ⟨#[109]⟩,.string ⟨#[115]⟩,.string ⟨#[116]⟩,.string ⟨#[120,47,110]⟩,.string ⟨#[120,47,115]⟩,.string ⟨#[120,47,121,47,122]⟩,.string ⟨#[120]⟩,.string ⟨#[113,47,114]⟩,.string ⟨#[110,47,111]⟩] 9
theorem Bb (c:Int)(w:World)(h1: -9223372036854775808≤c)(h2:c≤9223372036854775807):
  Calls rJ 65 #[.int .i64 c] w fun e w' =>e= .returned (.string ⟨(R.pathN c).toArray⟩)∧w' =w.alloc G9:=by
 obtain⟨p1,p2⟩:=Vp c 10 (by decide);obtain⟨i,hi⟩:∃i:Nat,YR c 10=(i:Int):=⟨(YR c 10).toNat,by omega⟩
 have HP:Hid (∀W:World,Calls rJ 25 #[.int .i64 c,.int .i64 10] W fun e w' =>e= .returned (.int .i64 (i:Int))∧w' =W):=fun W=>by
  have:=Up c 10 W h1 h2 (by decide) (by decide);rw[hi]at this;exact this
 have a0:i<10:=by omega
 have e0:(w.alloc (.cells #[.string ⟨#[110]⟩,.string ⟨#[109]⟩,.string ⟨#[115]⟩,.string ⟨#[116]⟩,.string ⟨#[120,47,110]⟩,.string ⟨#[120,47,115]⟩,.string ⟨#[120,47,121,47,122]⟩,.string ⟨#[120]⟩,.string ⟨#[113,47,114]⟩,.string ⟨#[110,47,111]⟩] 9)).cell? ⟨w.heap.size,i,none⟩=some (.string ⟨(R.pathN c).toArray⟩):=by
  unfold R.pathN;rw[Gr,hi];clear hi HP p1 p2;rcases(by omega:i=0∨i=1∨i=2∨i=3∨i=4∨i=5∨i=6∨i=7∨i=8∨i=9)with rfl|rfl|rfl|rfl|rfl|rfl|rfl|rfl|rfl|rfl<;>simp<;>rfl
 clear hi p1 p2;go_enter Tryz.func65,Tryz.ntmps65;go_wp2_with fail
 refine(HP.out _).mono ?_;rintro e W' ⟨rfl,hw⟩;subst hw;go_wp2;go_ret;exact⟨YI rfl,rfl⟩
def G8:Obj:= .cells #[.string ⟨#[112]⟩,.string ⟨#[113]⟩,.string ⟨#[114]⟩,.string ⟨#[115,111,109,101,32,116,101,120,116]⟩,.string ⟨#[122]⟩] 9
theorem Uo (c:Int)(w:World)(h1: -9223372036854775808≤c)(h2:c≤9223372036854775807):
  Calls rJ 66 #[.int .i64 c] w fun e w' =>e= .returned (.string ⟨(R.textN c).toArray⟩)∧w' =w.alloc G8:=by
 obtain⟨p1,p2⟩:=Vp c 5 (by decide);obtain⟨i,hi⟩:∃i:Nat,YR c 5=(i:Int):=⟨(YR c 5).toNat,by omega⟩
 have HP:Hid (∀W:World,Calls rJ 25 #[.int .i64 c,.int .i64 5] W fun e w' =>e= .returned (.int .i64 (i:Int))∧w' =W):=fun W=>by
  have:=Up c 5 W h1 h2 (by decide) (by decide);rw[hi]at this;exact this
 have a0:i<5:=by omega
 have e0:(w.alloc (.cells #[.string ⟨#[112]⟩,.string ⟨#[113]⟩,.string ⟨#[114]⟩,.string ⟨#[115,111,109,101,32,116,101,120,116]⟩,.string ⟨#[122]⟩] 9)).cell? ⟨w.heap.size,i,none⟩=some (.string ⟨(R.textN c).toArray⟩):=by
  unfold R.textN;rw[Gr,hi];clear hi HP p1 p2;rcases(by omega:i=0∨i=1∨i=2∨i=3∨i=4)with rfl|rfl|rfl|rfl|rfl<;>simp<;>rfl
 clear hi p1 p2;go_enter Tryz.func66,Tryz.ntmps66;go_wp2_with fail
 refine(HP.out _).mono ?_;rintro e W' ⟨rfl,hw⟩;subst hw;go_wp2;go_ret;exact⟨YI rfl,rfl⟩
section
def yx (l:List R.Raw):List Value:=l.flatMap fun a=> [.int .i64 a.kind,.int .i64 a.br,.int .i64 a.path,.int .i64 a.n]
theorem k_:∀(l:List R.Raw) (i:Nat) (h:i<l.length),(yx l)[i*4]? =some (.int .i64 l[i].kind)∧(yx l)[i*4+1]? =some (.int .i64 l[i].br)∧(yx l)[i*4+2]? =some (.int .i64 l[i].path)∧(yx l)[i*4+3]? =some (.int .i64 l[i].n)
 |x::r,0,_=>⟨rfl,rfl,rfl,rfl⟩
 |x::r,i+1,h=>by
  have ih:=k_ r i (by simpa using h);have e:∀j,(yx (x::r))[(i+1)*4+j]? =(yx r)[i*4+j]? :=fun j=>by
   show([.int .i64 x.kind,.int .i64 x.br,.int .i64 x.path,.int .i64 x.n]++yx r)[(i+1)*4+j]? =_;rw[List.getElem?_append_right (by simp;omega)];congr 1
   simp;omega
  have e0:=e 0;rw[eS,eS]at e0;rw[e0,e 1,e 2,e 3];exact ih
def okN (n:Int):Prop:= -9223372036854775808≤n∧n≤9223372036854775807
structure okR (a:R.Raw):Prop where
 k:okN a.kind
 b:okN a.br
 p:okN a.path
 n:okN a.n
theorem BR:(R.made aw0 [97] [] false).1=0:=by decide+kernel
theorem jQ:∀l:List Value,l=(lQ l.length).map fun i=>l.getD i undef
 |[]=>rfl
 |x::r=>by
  have ih:=jQ r;rw[mC,List.range_succ_eq_map,List.map_cons,List.map_map];simp only[List.getD_cons_zero,Function.comp_def,List.getD_cons_succ];rw[←ih]
def SmQ (oa:Option Addr)(on oc B it:Nat)(A0:World)(HH:Nat→Prop)(s0:Int)(e:Exit)(a:Act)(wr:World):Prop:=
 e= .normal∧a.defers=[]∧a.tmps.size=204∧a.tmps[2]? =some (.slice oa on oc)∧a.tmps[8]? =some (.pointer (some ⟨B,0,none⟩))∧a.tmps[14]? =some (.slice (some ⟨it,0,none⟩) 5 5)∧∃(sum:Int) (na:Nat) (st:R.St),na≤20∧a.tmps[9]? =some (.int .i64 sum)∧R.SumA s0 sum na 0 21 st∧KS A0 HH B st 48 wr
def SnQ (w:World)(B:Nat)(s0 sum:Int)(e:Exit)(a:Act)(wr:World):Prop:=
 e= .normal∧a.defers=[]∧a.tmps.size=204∧a.tmps[8]? =some (.pointer (some ⟨B,0,none⟩))∧a.tmps[9]? =some (.int .i64 sum)∧∃(st:R.St) (w1:World) (HX:Nat→Prop),R.SumB s0 sum [] 30 st∧KS w1 HX B st 58 wr∧(∀b,b<w.heap.size→HX b)∧zf w w1
def BL (w1:World)(HX:Nat→Prop)(la:Option Addr)(lc:Nat)(L:List Nat):Prop:=0<L.length→∃g,la=some ⟨g,0,none⟩∧L.length≤lc∧lc≤9223372036854775807∧HX g∧∀j (h:j<L.length),w1.cell? ⟨g,j,none⟩=some (.string ⟨(R.bgItem L[j]).toArray⟩)
def SnI (w:World)(oa:Option Addr)(on oc B:Nat)(s0 sum:Int)(a:Act)(wr:World):Prop:=
 (a.defers=[]∧a.tmps.size=204∧a.tmps[2]? =some (.slice oa on oc)∧a.tmps[8]? =some (.pointer (some ⟨B,0,none⟩))∧a.tmps[9]? =some (.int .i64 sum))∧
 ∃(i:Nat) (L:List Nat) (la:Option Addr) (lc:Nat) (st:R.St) (w1:World) (HX:Nat→Prop),i≤4∧i+L.length=4∧L.Nodup∧(∀j∈L,1≤j∧j<5)∧a.tmps[27]? =some (.int .i64 (i:Int))∧a.tmps[26]? =some (.slice la L.length lc)∧R.SumB s0 sum L (26+i) st∧KS w1 HX B st (54+i) wr∧(∀b,b<w.heap.size→HX b)∧zf w w1∧BL w1 HX la lc L
def dM (a:Act):Nat:=(intOf (a.tmps.getD 27 undef)).toNat
def SkQ (oa:Option Addr)(on oc B i n:Nat)(sum:Int)(la:Option Addr)(lc:Nat)(w1:World)(HX:Nat→Prop)(st:R.St)(e:Exit)(a:Act)(wr:World):Prop:=
 e= .normal∧a.defers=[]∧a.tmps.size=204∧a.tmps[2]? =some (.slice oa on oc)∧a.tmps[8]? =some (.pointer (some ⟨B,0,none⟩))∧a.tmps[9]? =some (.int .i64 sum)∧a.tmps[26]? =some (.slice la n lc)∧a.tmps[27]? =some (.int .i64 (i:Int))∧KS w1 HX B st (54+i) wr∧∃k:Nat,k<n∧a.tmps[28]? =some (.int .i64 (k:Int))
def nmV (j:Nat):Value:= .string ⟨(R.bgItem j).toArray⟩
end
section
theorem KS.delete {w0 w:World}{H:Nat→Prop}{B c:Nat}{st:R.St}(h:KS w0 H B st c w)(a0 path:List UInt8)(a1:path.length≤maxLen){r:Int}(hr:(R.change st 0 a0 path 0 []).1=r):
  Calls rJ 42 #[.pointer (some ⟨B,0,none⟩),.string ⟨a0.toArray⟩,.string ⟨path.toArray⟩] w fun e w' =>e= .returned (.int .i64 r)∧KS w0 H B (R.change st 0 a0 path 0 []).2 (c+1) w' :=by
 subst hr;exact h.call (Y2 h.inv _ _ _ _ _ (by simp)) (by rw[yP];omega) fun O h1 h2 h3 h4 h5 h6=>cL B st a0 path w O O h1 h2 h4 h5 a1
theorem KS.alloc {w0 w:World}{H:Nat→Prop}{B c:Nat}{st:R.St}(h:KS w0 H B st c w)(o:Obj):KS w0 H B st c (w.alloc o):=h.keptM ((zf.refl w).alloc o)
def Cg (w0:World)(H:Nat→Prop)(v:Value)(l:List R.Raw):Prop:=∃a cap,v= .slice a l.length cap∧l.length≤cap∧cap≤9223372036854775807∧(0<l.length→∃b off,a=some ⟨b,off,none⟩∧H b∧∀j u,(yx l)[j]? =some u→w0.cell? ⟨b,off+j,none⟩=some u)
theorem ka (l:List (List UInt8))(n:Nat)(h:∀x∈l,x.length≤n)(i:Nat):(l.getD i []).length≤n:=by
 rw[iJ]
 cases e:l[i]? with
 |none=>simp
 |some x=>exact h x (List.mem_of_getElem? e)
theorem UJ (c:Int):(R.brN c).length≤10:=ka _ 10 (by decide) _
theorem fm (c:Int):(R.pathN c).length≤10:=ka _ 10 (by decide) _
theorem Qr (c:Int):(R.textN c).length≤10:=ka _ 10 (by decide) _
theorem kx (c:Int)(hc:okN c)(n:Int)(h0:0<n)(hn:n≤9223372036854775807):∃f:Nat,(f:Int)<n∧R.pk_ c n=(f:Int)∧∀W:World,Calls rJ 25 #[.int .i64 c,.int .i64 n] W fun e w' =>e= .returned (.int .i64 f)∧w' =W:=by
 have hp:=Vp c n h0;refine⟨(YR c n).toNat,by omega,by rw[Gr];omega,fun W=> ?_⟩;have:=Up c n W hc.1 hc.2 h0 hn;rw[show(((YR c n).toNat:Nat):Int)=YR c n by omega];exact this
theorem OZ {a:Act}(hd:a.defers=[])(hs:a.tmps.size=110):∃f:Nat→Value,(∀i v,a.tmps[i]? =some v→f i=v)∧a=⟨#[f 0,f 1,f 2,f 3,f 4,f 5,f 6,f 7,f 8,f 9,f 10,f 11,f 12,f 13,f 14,f 15,f 16,f 17,f 18,f 19,f 20,f 21,f 22,f 23,f 24,f 25,f 26,f 27,f 28,f 29,f 30,f 31,f 32,f 33,f 34,f 35,f 36,f 37,f 38,f 39,f 40,f 41,f 42,f 43,f 44,f 45,f 46,f 47,f 48,f 49,f 50,f 51,f 52,f 53,f 54,f 55,f 56,f 57,f 58,f 59,f 60,f 61,f 62,f 63,f 64,f 65,f 66,f 67,f 68,f 69,f 70,f 71,f 72,f 73,f 74,f 75,f 76,f 77,f 78,f 79,f 80,f 81,f 82,f 83,f 84,f 85,f 86,f 87,f 88,f 89,f 90,f 91,f 92,f 93,f 94,f 95,f 96,f 97,f 98,f 99,f 100,f 101,f 102,f 103,f 104,f 105,f 106,f 107,f 108,f 109],[]⟩:=by
 obtain⟨⟨l⟩,ds⟩:=a;simp only at hd;subst hd;have hl:l.length=110:=hs;refine⟨fun i=>l.getD i undef,fun i v hv=> ?_,?_⟩
 ·have:l[i]? =some v:=by simpa using hv
  simp[iJ,this]
 ·have:=jQ l
  rw[hl]at this;exact congrArg (fun x:List Value=>(⟨⟨x⟩,[]⟩:Act)) this
def AcI (w0:World)(H:Nat→Prop)(B c:Nat)(st:R.St)(l:List R.Raw)(sa:Option Addr)(sc:Nat)(a:Act)(wr:World):Prop:=
 (a.defers=[]∧a.tmps.size=110∧a.tmps[0]? =some (.pointer (some ⟨B,0,none⟩))∧a.tmps[1]? =some (.slice sa l.length sc))∧
 ∃i:Nat,i≤25∧i≤l.length∧a.tmps[4]? =some (.int .i64 (i:Int))∧KS w0 H B ((l.take i).foldl R.actP st) (c+2*i) wr
theorem AcI.re {w0:World}{H:Nat→Prop}{B c:Nat}{st:R.St}{l:List R.Raw}{sa:Option Addr}{sc:Nat}{a:Act}{wr:World}(h:AcI w0 H B c st l sa sc a wr)(T:Nat→Question→Nat)(d:Nat):AcI w0 H B c st l sa sc a (Go.Proofs.YtolgebdmffcemaaGreatDoor.re wr T d):=by
 obtain⟨h0,i,h1,h2,h3,h4⟩:=h;exact⟨h0,i,h1,h2,h3,h4.re T d⟩
def at4 (a:Act):Nat:=(intOf (a.tmps.getD 4 undef)).toNat
theorem cP (l:List R.Raw)(st:R.St)(i:Nat)(h:i<l.length):(l.take (i+1)).foldl R.actP st=R.actP ((l.take i).foldl R.actP st) l[i]:=by
 rw[List.take_succ_eq_append_getElem h,List.foldl_append];rfl
def BO (w0:World)(H:Nat→Prop)(B c:Nat)(st:R.St)(v:Value)(w' :World):Prop:=v= .tuple #[]∧KS w0 H B st c w'
theorem Bc {w0 w:World}{H:Nat→Prop}{B c:Nat}{st:R.St}(h:KS w0 H B st c w)(hc:c≤200000){v:Value}{l:List R.Raw}(hA:Cg w0 H v l)(b5:∀a∈l,okR a):
  zO rJ 36 #[.pointer (some ⟨B,0,none⟩),v] w (BO w0 H B (c+50) (R.actsP st l)):=by
 have hP:=xT;obtain⟨sa,sc,rfl,i2,i3,f8⟩:=hA;have d3:=z6 f8;have g0:=z6 b5;have HS:=z6 h;clear f8 b5 h;refine zS hP LE rfl ?_;have f3:ReC (zZ rJ LF (BO w0 H B (c+50) (R.actsP st l))):=ReC.body fun v w' T d ⟨h1,h2⟩=>⟨h1,h2.re T d⟩
 simp only[Tryz.ntmps36,sE,mC,mS,sF,sG,sH,sI,sJ,sL,mJ,lN];refine z7 hP f3 fun T d=> ?_
 have a0 :=z6 (HS.out.re T d);clear HS;generalize re w T d=W at*;go_wp2;refine yd hP ?_;refine jd hP (AcI w0 H B c st l sa sc) (fun a _=>25-at4 a) ⟨⟨rfl,rfl,rfl,rfl⟩,0,sQ _,sQ _,rfl,a0.out⟩ ?_;clear a0;rintro a wr ⟨⟨hd,f9,t0,t1⟩,i,g4,h0,t4,hs⟩;have a2:∀μ0:Nat,ReC (Exit.then (fun a' w' =>AcI w0 H B c st l sa sc a' w' ∧25-at4 a' <μ0) (Exit.inBlock 0 (zZ rJ LF (BO w0 H B (c+50) (R.actsP st l))))):=fun μ0=>f3.inBlock.thenM fun a w T d ⟨h1,h6⟩=>⟨h1.re T d,h6⟩
 have f6:25-at4 a=25-i:=by
  unfold at4;simp only[Array.getD_eq_getD_getElem?,t4];simp[intOf]
 rw[f6];obtain⟨f,c8,f5⟩:=OZ hd f9;rw[c8 0 _ t0,c8 1 _ t1,c8 4 _ t4]at f5;clear f6 c8 hd f9 t0 t1 t4;subst f5;have HS:=z6 hs;clear hs;by_cases b6:i<l.length∧i<25
 ·obtain⟨b6,g6⟩:=b6
  obtain⟨b,off,rfl,hb,b8⟩:=d3.out (by omega);have b1:Hid (∀(st:R.St) (c:Nat) (X:World),KS w0 H B st c X→∀(k j:Nat) (u:Value),(yx l)[k*4+j]? =some u→X.cell? ⟨b,off+k*4+j,none⟩=some u):=fun st c X hX k j u hu=>by
   rw[hX.held.cell (p:=⟨b,off+k*4+j,none⟩) hb,Nat.add_assoc];exact b8 _ _ hu
  clear b8 hb;obtain⟨q0,q1,q2,q3⟩:=k_ l i b6;have g1:Hid ((yx l)[i*4+0]? =_):=q0;have g2:=z6 q1;have g3:=z6 q2;have c6:=z6 q3;have b5:=g0.out _ (j0c b6);have HF:=z6 (cP l st i b6);generalize l[i]'b6=act at*;obtain⟨ak,ab,ap,an⟩:=act;clear q0 q1 q2 q3;generalize(l.take i).foldl R.actP st=st1 at*;obtain⟨pk,i0,f7,b9⟩:=kx ak b5.k 10 (by decide) (by decide);have PK:=z6 b9;have b2:=z6 f7;have d6:=z6 (fun W=>Q6 ab W b5.b.1 b5.b.2);have d8:=z6 (fun W=>Bb ap W b5.p.1 b5.p.2);have g9:=UJ ab;have i1:=fm ap;have a7:=z6 b5.n;clear b9 f7 b5;refine z7 hP (a2 _) fun T d=> ?_
  have a0 :=z6 (HS.out.re T d);clear HS;generalize re wr T d=X0 at*;go_wp2;refine zw hP ?_;refine yd hP ?_;refine z7 hP (a2 _).thenT.inBlock fun T d=> ?_
  have HS:=z6 (a0.out.re T d);clear a0;generalize re X0 T d=X1 at*;have e1:=b1.out _ _ X1 HS.out i 1 _ g2.out;go_wp2_with fail
  refine(d6.out _).mono ?_;rintro e X2 ⟨rfl,hw⟩;have b7:Hid (KS w0 H B st1 (c+2*i) X2):=by subst hw;exact HS.out.alloc _
  clear HS hw e1;go_wp2;refine z7 hP (a2 _).thenT.inBlock fun T d=> ?_
  have HS:=z6 (b7.out.re T d);clear b7;generalize re X2 T d=X3 at*;have e2:=b1.out _ _ X3 HS.out i 2 _ g3.out;go_wp2_with fail
  refine(d8.out _).mono ?_;rintro e X4 ⟨rfl,hw⟩;have b7:Hid (KS w0 H B st1 (c+2*i) X4):=by subst hw;exact HS.out.alloc _
  clear HS hw e2;go_wp2;refine z7 hP (a2 _).thenT.inBlock fun T d=> ?_
  have HS:=z6 (b7.out.re T d);clear b7;generalize re X4 T d=X5 at*;have e0:=b1.out _ _ X5 HS.out i 0 _ g1.out;simp only[eS]at e0;go_wp2_with fail
  refine(PK.out _).mono ?_;rintro e W' ⟨rfl,hw⟩;replace hw:=hw.symm;subst hw;clear e0 PK d6 d8;go_wp2;generalize c7:R.pathN ap=pa at*;have b3:=z6 c7;clear c7;generalize f4:R.brN ab=br at*;have a6:=z6 f4;clear f4;rcases(by omega:pk=0∨pk=1∨pk=2∨pk=3∨pk=4∨pk=5∨pk=6∨pk=7∨pk=8∨pk=9)with rfl|rfl|rfl|rfl|rfl|rfl|rfl|rfl|rfl|rfl
  ·have a5:Hid (R.actP st1 ⟨ak,ab,ap,an⟩=(R.change st1 35 br pa (R.pk_ an 200-100) []).2):=by
    show _=_;unfold R.actP;simp only[b2.out,a6.out,b3.out];rfl
   obtain⟨pn,g7,a9,a3⟩:=kx an a7.out 200 (by decide) (by decide);have PN:=z6 a3;rw[a9]at a5;clear a3 a9;refine zg hP (a2 _).thenT.inBlock fun T d=> ?_
   have a0 :=z6 (HS.out.re T d);clear HS;generalize re X5 T d=X6 at*;have e3:=b1.out _ _ X6 a0.out i 3 _ c6.out;go_wp2_with fail
   refine(PN.out _).mono ?_;rintro e W' ⟨rfl,hw⟩;replace hw:=hw.symm;subst hw;clear e3;go_wp2_with fail
   refine(a0.out.add br pa ((pn:Int)-100) (by unfold maxLen;omega) (by omega) (by omega) rfl).mono ?_;rintro e X9 ⟨rfl,hs⟩;have a1:=z6 hs;clear hs;go_wp2;refine zg hP (a2 _) fun T d=> ?_
   have a4:Hid (KS w0 H B ((l.take (i+1)).foldl R.actP st) (c+2*(i+1)) (re X9 T d)):=by
    show KS _ _ _ _ _ _;rw[HF.out,a5.out];exact(a1.out.re T d).mono (by omega)
   clear a1;generalize re X9 T d=Y0 at*;go_wp2;exact⟨⟨⟨rfl,rfl,rfl,rfl⟩,i+1,by omega,by omega,by simp,a4.out⟩,by simp[at4,intOf];omega⟩
  ·have a5:Hid (R.actP st1 ⟨ak,ab,ap,an⟩=(R.change st1 35 br pa (R.pk_ an 200-100) []).2):=by
    show _=_;unfold R.actP;simp only[b2.out,a6.out,b3.out];rfl
   obtain⟨pn,g7,a9,a3⟩:=kx an a7.out 200 (by decide) (by decide);have PN:=z6 a3;rw[a9]at a5;clear a3 a9;refine zg hP (a2 _).thenT.inBlock fun T d=> ?_
   have a0 :=z6 (HS.out.re T d);clear HS;generalize re X5 T d=X6 at*;have e3:=b1.out _ _ X6 a0.out i 3 _ c6.out;go_wp2_with fail
   refine(PN.out _).mono ?_;rintro e W' ⟨rfl,hw⟩;replace hw:=hw.symm;subst hw;clear e3;go_wp2_with fail
   refine(a0.out.add br pa ((pn:Int)-100) (by unfold maxLen;omega) (by omega) (by omega) rfl).mono ?_;rintro e X9 ⟨rfl,hs⟩;have a1:=z6 hs;clear hs;go_wp2;refine zg hP (a2 _) fun T d=> ?_
   have a4:Hid (KS w0 H B ((l.take (i+1)).foldl R.actP st) (c+2*(i+1)) (re X9 T d)):=by
    show KS _ _ _ _ _ _;rw[HF.out,a5.out];exact(a1.out.re T d).mono (by omega)
   clear a1;generalize re X9 T d=Y0 at*;go_wp2;exact⟨⟨⟨rfl,rfl,rfl,rfl⟩,i+1,by omega,by omega,by simp,a4.out⟩,by simp[at4,intOf];omega⟩
  ·have a5:Hid (R.actP st1 ⟨ak,ab,ap,an⟩=(R.change st1 61 br pa 0 (R.textN an)).2):=by
    show _=_;unfold R.actP;simp only[b2.out,a6.out,b3.out];rfl
   refine zg hP (a2 _).thenT.inBlock fun T d=> ?_
   have a0 :=z6 (HS.out.re T d);clear HS;generalize re X5 T d=X6 at*;have a8:=z6 (fun W=>Uo an W a7.out.1 a7.out.2);have d4:=Qr an;have e3:=b1.out _ _ X6 a0.out i 3 _ c6.out;go_wp2_with fail
   refine(a8.out _).mono ?_;rintro e X7 ⟨rfl,hw⟩;have b4:Hid (KS w0 H B st1 (c+2*i) X7):=by subst hw;exact a0.out.alloc _
   clear a0 hw e3 a8;go_wp2_with fail
   refine(b4.out.note br pa (R.textN an) (by unfold maxLen;omega) (by unfold maxLen;omega) rfl).mono ?_;rintro e X9 ⟨rfl,hs⟩;have a1:=z6 hs;clear hs;go_wp2;refine zg hP (a2 _) fun T d=> ?_
   have a4:Hid (KS w0 H B ((l.take (i+1)).foldl R.actP st) (c+2*(i+1)) (re X9 T d)):=by
    show KS _ _ _ _ _ _;rw[HF.out,a5.out];exact(a1.out.re T d).mono (by omega)
   clear a1;generalize re X9 T d=Y0 at*;go_wp2;exact⟨⟨⟨rfl,rfl,rfl,rfl⟩,i+1,by omega,by omega,by simp,a4.out⟩,by simp[at4,intOf];omega⟩
  ·have a5:Hid (R.actP st1 ⟨ak,ab,ap,an⟩=(R.change st1 42 br pa 0 (R.textN an)).2):=by
    show _=_;unfold R.actP;simp only[b2.out,a6.out,b3.out];rfl
   refine zg hP (a2 _).thenT.inBlock fun T d=> ?_
   have a0 :=z6 (HS.out.re T d);clear HS;generalize re X5 T d=X6 at*;have a8:=z6 (fun W=>Uo an W a7.out.1 a7.out.2);have d4:=Qr an;have e3:=b1.out _ _ X6 a0.out i 3 _ c6.out;go_wp2_with fail
   refine(a8.out _).mono ?_;rintro e X7 ⟨rfl,hw⟩;have b4:Hid (KS w0 H B st1 (c+2*i) X7):=by subst hw;exact a0.out.alloc _
   clear a0 hw e3 a8;go_wp2_with fail
   refine(b4.out.put br pa (R.textN an) (by unfold maxLen;omega) (by unfold maxLen;omega) rfl).mono ?_;rintro e X9 ⟨rfl,hs⟩;have a1:=z6 hs;clear hs;go_wp2;refine zg hP (a2 _) fun T d=> ?_
   have a4:Hid (KS w0 H B ((l.take (i+1)).foldl R.actP st) (c+2*(i+1)) (re X9 T d)):=by
    show KS _ _ _ _ _ _;rw[HF.out,a5.out];exact(a1.out.re T d).mono (by omega)
   clear a1;generalize re X9 T d=Y0 at*;go_wp2;exact⟨⟨⟨rfl,rfl,rfl,rfl⟩,i+1,by omega,by omega,by simp,a4.out⟩,by simp[at4,intOf];omega⟩
  ·have a5:Hid (R.actP st1 ⟨ak,ab,ap,an⟩=(R.change st1 42 br pa 0 (R.textN an)).2):=by
    show _=_;unfold R.actP;simp only[b2.out,a6.out,b3.out];rfl
   refine zg hP (a2 _).thenT.inBlock fun T d=> ?_
   have a0 :=z6 (HS.out.re T d);clear HS;generalize re X5 T d=X6 at*;have a8:=z6 (fun W=>Uo an W a7.out.1 a7.out.2);have d4:=Qr an;have e3:=b1.out _ _ X6 a0.out i 3 _ c6.out;go_wp2_with fail
   refine(a8.out _).mono ?_;rintro e X7 ⟨rfl,hw⟩;have b4:Hid (KS w0 H B st1 (c+2*i) X7):=by subst hw;exact a0.out.alloc _
   clear a0 hw e3 a8;go_wp2_with fail
   refine(b4.out.put br pa (R.textN an) (by unfold maxLen;omega) (by unfold maxLen;omega) rfl).mono ?_;rintro e X9 ⟨rfl,hs⟩;have a1:=z6 hs;clear hs;go_wp2;refine zg hP (a2 _) fun T d=> ?_
   have a4:Hid (KS w0 H B ((l.take (i+1)).foldl R.actP st) (c+2*(i+1)) (re X9 T d)):=by
    show KS _ _ _ _ _ _;rw[HF.out,a5.out];exact(a1.out.re T d).mono (by omega)
   clear a1;generalize re X9 T d=Y0 at*;go_wp2;exact⟨⟨⟨rfl,rfl,rfl,rfl⟩,i+1,by omega,by omega,by simp,a4.out⟩,by simp[at4,intOf];omega⟩
  ·have a5:Hid (R.actP st1 ⟨ak,ab,ap,an⟩=(R.change st1 45 br pa 0 (R.textN an)).2):=by
    show _=_;unfold R.actP;simp only[b2.out,a6.out,b3.out];rfl
   refine zg hP (a2 _).thenT.inBlock fun T d=> ?_
   have a0 :=z6 (HS.out.re T d);clear HS;generalize re X5 T d=X6 at*;have a8:=z6 (fun W=>Uo an W a7.out.1 a7.out.2);have d4:=Qr an;have e3:=b1.out _ _ X6 a0.out i 3 _ c6.out;go_wp2_with fail
   refine(a8.out _).mono ?_;rintro e X7 ⟨rfl,hw⟩;have b4:Hid (KS w0 H B st1 (c+2*i) X7):=by subst hw;exact a0.out.alloc _
   clear a0 hw e3 a8;go_wp2_with fail
   refine(b4.out.take br pa (R.textN an) (by unfold maxLen;omega) (by unfold maxLen;omega) rfl).mono ?_;rintro e X9 ⟨rfl,hs⟩;have a1:=z6 hs;clear hs;go_wp2;refine zg hP (a2 _) fun T d=> ?_
   have a4:Hid (KS w0 H B ((l.take (i+1)).foldl R.actP st) (c+2*(i+1)) (re X9 T d)):=by
    show KS _ _ _ _ _ _;rw[HF.out,a5.out];exact(a1.out.re T d).mono (by omega)
   clear a1;generalize re X9 T d=Y0 at*;go_wp2;exact⟨⟨⟨rfl,rfl,rfl,rfl⟩,i+1,by omega,by omega,by simp,a4.out⟩,by simp[at4,intOf];omega⟩
  ·have a5:Hid (R.actP st1 ⟨ak,ab,ap,an⟩=(R.change st1 0 br pa 0 []).2):=by
    show _=_;unfold R.actP;simp only[b2.out,a6.out,b3.out];rfl
   refine zg hP (a2 _).thenT.inBlock fun T d=> ?_
   have a0 :=z6 (HS.out.re T d);clear HS;generalize re X5 T d=X6 at*;go_wp2_with fail
   refine(a0.out.delete br pa (by unfold maxLen;omega) rfl).mono ?_;rintro e X9 ⟨rfl,hs⟩;have a1:=z6 hs;clear hs;go_wp2;refine zg hP (a2 _) fun T d=> ?_
   have a4:Hid (KS w0 H B ((l.take (i+1)).foldl R.actP st) (c+2*(i+1)) (re X9 T d)):=by
    show KS _ _ _ _ _ _;rw[HF.out,a5.out];exact(a1.out.re T d).mono (by omega)
   clear a1;generalize re X9 T d=Y0 at*;go_wp2;exact⟨⟨⟨rfl,rfl,rfl,rfl⟩,i+1,by omega,by omega,by simp,a4.out⟩,by simp[at4,intOf];omega⟩
  ·have a5:Hid (R.actP st1 ⟨ak,ab,ap,an⟩=(R.commit st1 br).2):=by
    show _=_;unfold R.actP;simp only[b2.out,a6.out,b3.out];rfl
   refine zg hP (a2 _).thenT.inBlock fun T d=> ?_
   have a0 :=z6 (HS.out.re T d);clear HS;generalize re X5 T d=X6 at*;go_wp2_with fail
   refine(a0.out.commit (by omega) br rfl).mono ?_;rintro e X9 ⟨rfl,hs⟩;have a1:=z6 hs;clear hs;go_wp2;refine zg hP (a2 _) fun T d=> ?_
   have a4:Hid (KS w0 H B ((l.take (i+1)).foldl R.actP st) (c+2*(i+1)) (re X9 T d)):=by
    show KS _ _ _ _ _ _;rw[HF.out,a5.out];exact(a1.out.re T d).mono (by omega)
   clear a1;generalize re X9 T d=Y0 at*;go_wp2;exact⟨⟨⟨rfl,rfl,rfl,rfl⟩,i+1,by omega,by omega,by simp,a4.out⟩,by simp[at4,intOf];omega⟩
  ·have a5:Hid (R.actP st1 ⟨ak,ab,ap,an⟩=(R.commit st1 br).2):=by
    show _=_;unfold R.actP;simp only[b2.out,a6.out,b3.out];rfl
   refine zg hP (a2 _).thenT.inBlock fun T d=> ?_
   have a0 :=z6 (HS.out.re T d);clear HS;generalize re X5 T d=X6 at*;go_wp2_with fail
   refine(a0.out.commit (by omega) br rfl).mono ?_;rintro e X9 ⟨rfl,hs⟩;have a1:=z6 hs;clear hs;go_wp2;refine zg hP (a2 _) fun T d=> ?_
   have a4:Hid (KS w0 H B ((l.take (i+1)).foldl R.actP st) (c+2*(i+1)) (re X9 T d)):=by
    show KS _ _ _ _ _ _;rw[HF.out,a5.out];exact(a1.out.re T d).mono (by omega)
   clear a1;generalize re X9 T d=Y0 at*;go_wp2;exact⟨⟨⟨rfl,rfl,rfl,rfl⟩,i+1,by omega,by omega,by simp,a4.out⟩,by simp[at4,intOf];omega⟩
  ·have a5:Hid (R.actP st1 ⟨ak,ab,ap,an⟩=(R.joinB (R.commit st1 br).2 br (R.brN an)).2):=by
    show _=_;unfold R.actP;simp only[b2.out,a6.out,b3.out];rfl
   have d5:=z6 (fun W=>Q6 an W a7.out.1 a7.out.2);refine yd hP ?_;refine z7 hP (a2 _).thenT.inBlock.inBlock fun T d=> ?_
   have d9:=z6 (HS.out.re T d);clear HS;generalize re X5 T d=Z0 at*;go_wp2;refine Y8 (t:=false) hP (by simp[Act.eval]) ?_;simp only[eL,if_false];refine z7 hP (a2 _).thenT.inBlock.inBlock fun T d=> ?_
   have e6:=z6 (d9.out.re T d);clear d9;generalize re Z0 T d=Z1 at*;go_wp2;refine Y8 (t:=false) hP (by simp[Act.eval]) ?_;simp only[eL,if_false];refine z7 hP (a2 _).thenT.inBlock.inBlock fun T d=> ?_
   have b7:=z6 (e6.out.re T d);clear e6;generalize re Z1 T d=Z2 at*;go_wp2;refine Y8 (t:=false) hP (by simp[Act.eval]) ?_;simp only[eL,if_false];refine z7 hP (a2 _).thenT.inBlock.inBlock fun T d=> ?_
   have e7:=z6 (b7.out.re T d);clear b7;generalize re Z2 T d=Z3 at*;go_wp2;refine Y8 (t:=false) hP (by simp[Act.eval]) ?_;simp only[eL,if_false];refine z7 hP (a2 _).thenT.inBlock.inBlock fun T d=> ?_
   have e8:=z6 (e7.out.re T d);clear e7;generalize re Z3 T d=Z4 at*;go_wp2;refine Y8 (t:=false) hP (by simp[Act.eval]) ?_;simp only[eL,if_false];refine z7 hP (a2 _).thenT.inBlock.inBlock fun T d=> ?_
   have e9:=z6 (e8.out.re T d);clear e8;generalize re Z4 T d=Z5 at*;go_wp2;refine Y8 (t:=false) hP (by simp[Act.eval]) ?_;simp only[eL,if_false];refine z7 hP (a2 _).thenT.inBlock.inBlock fun T d=> ?_
   have f0:=z6 (e9.out.re T d);clear e9;generalize re Z5 T d=Z6 at*;go_wp2_with fail
   refine(f0.out.commit (by omega) br rfl).mono ?_;rintro e Z7 ⟨rfl,hs⟩;have b4:=z6 hs;clear hs f0;go_wp2;refine zN hP 8 (a2 _).thenT.inBlock.inBlock rfl rfl rfl LD (by decide) rfl fun T d=> ?_
   have a1:=z6 (b4.out.re T d);clear b4;generalize re Z7 T d=Z8 at*;have e3:=b1.out _ _ Z8 a1.out i 3 _ c6.out;simp only[IP,IQ,IR,IS];go_wp2_with fail
   refine(d5.out _).mono ?_;rintro e Z9 ⟨rfl,hw⟩;have a4:Hid (KS w0 H B (R.commit st1 br).2 (c+2*i+1) Z9):=by subst hw;exact a1.out.alloc _
   clear a1 hw e3 d5;go_wp2;refine⟨_,_,by simp[Act.eval],a4.out.join (by omega) br (R.brN an) (by omega),?_⟩;rintro v V' ⟨rfl,hs⟩ T d;have a1:=z6 (hs.re T d);clear a4 hs;generalize re V' T d=X9 at*;clear V';go_wp2;refine zg hP (a2 _) fun T d=> ?_
   have a4:Hid (KS w0 H B ((l.take (i+1)).foldl R.actP st) (c+2*(i+1)) (re X9 T d)):=by
    show KS _ _ _ _ _ _;rw[HF.out,a5.out];exact(a1.out.re T d).mono (by omega)
   clear a1;generalize re X9 T d=Y0 at*;go_wp2;exact⟨⟨⟨rfl,rfl,rfl,rfl⟩,i+1,by omega,by omega,by simp,a4.out⟩,by simp[at4,intOf];omega⟩
 ·have c9:¬(i<l.length∧i<25):=b6
  have HE:Hid (KS w0 H B (R.actsP st l) (c+50) wr):=by
   have e:l.take i=l.take 25:=by
    by_cases h1:i<l.length
    ·have:i=25:=by
      rcases Nat.lt_or_ge i 25 with h2|h2
      ·exact absurd ⟨h1,h2⟩ c9
      ·omega
     rw[this]
    ·have:i=l.length:=by omega
     rw[this,List.take_length,List.take_of_length_le (by omega)]
   have h2:=HS.out;rw[e]at h2;exact h2.mono (by omega)
  clear HS;refine z7 hP (a2 _) fun T d=> ?_
  have d7 :=z6 (HE.out.re T d);clear HE;generalize re wr T d=X0 at*;by_cases g5:i<l.length
  ·have g8:¬i<25:=fun h=>c9 ⟨g5,h⟩
   clear c9 b6;go_wp2;refine⟨rfl,.tuple #[],fun W=> ?_,rfl,d7.out⟩;simp[results,LG,go_sem]
  ·clear c9 b6
   go_wp2;refine⟨rfl,.tuple #[],fun W=> ?_,rfl,d7.out⟩;simp[results,LG,go_sem]
end
section
def Fl (w:World)(v:Value)(w' :World):Prop:=∃(B:Nat) (st:R.St),v= .pointer (some ⟨B,0,none⟩)∧R.Lived st∧R.PathI st∧KS w (fun b=>b<w.heap.size) B st 70 w'
theorem Fl.re {w:World}{v:Value}{w' :World}(h:Fl w v w')(T:Nat→Question→Nat)(d:Nat):Fl w v (Go.Proofs.YtolgebdmffcemaaGreatDoor.re w' T d):=by
 obtain⟨B,st,h1,h2,hp,h3⟩:=h;exact⟨B,st,h1,h2,hp,h3.re T d⟩
theorem Fe {w:World}{v:Value}{l:List R.Raw}(h:Rd w (fun _=>False) v l.length (yx l)):Cg w (fun b=>b<w.heap.size) v l:=by
 obtain⟨a,cap,rfl,h1,h2,h3⟩:=h;unfold maxLen at h2;refine⟨a,cap,rfl,h1,by omega,fun h0=> ?_⟩;obtain⟨b,off,h4,h5,_,h6⟩:=h3 h0;exact⟨b,off,h4,h5,h6⟩
theorem CT {w:World}(hG:Zy w)(h6:6≤w.heap.size){v:Value}{l:List R.Raw}(hA:Rd w (fun _=>False) v l.length (yx l))(b4:∀a∈l,okR a):
  zO rJ 16 #[v] w (Fl w):=by
 have hP:=xT;have b6:=z6 (Fe hA);have b8:=z6 b4;clear hA b4;obtain⟨c8,ea⟩:=R.add5 7 (by decide) (by decide);obtain⟨c9,ec⟩:=R.commit0 7 c8;obtain⟨d3,e1⟩:=R.fork5 7 (k:=1) (by decide) (by decide) c9;obtain⟨a6,e2⟩:=R.fork5 7 (k:=2) (by decide) (by decide) d3;have a4:=z6 (R.pack_liv ea ec e1 e2);have EA:=z6 ea;have EC:=z6 ec;have E1:=z6 e1;have E2:=z6 e2;clear ea ec e1 e2;refine zS hP Tryz.func16 rfl ?_;have a1:ReC (zZ rJ Tryz.f16 (Fl w)):=ReC.body fun v w' T d h=>h.re T d
 simp only[Tryz.ntmps16,sE,mC,mS,sF,sG,sH,sI,sJ,sL,mJ,lN];refine z7 hP a1 fun T d=> ?_
 have HB:=z6 ((zf.refl w).re T d);generalize re w T d=W at*;go_wp2;refine zw hP ?_;refine zN hP 0 a1.thenT rfl rfl rfl LA (by decide) rfl fun T d=> ?_
 have HK:=z6 (HB.out.re T d);clear HB;generalize re W T d=W1 at*;go_wp2;refine⟨_,_,by simp[Act.eval],CU (hG.keptM HK.out) (j0f h6 HK.out.size),?_⟩;rintro v' V' ⟨rfl,hk⟩ T d;have HB:=z6 ((HK.out.trans hk).re T d);clear HK hk;generalize re V' T d=W2 at*;clear V';go_wp2;refine z7 hP a1 fun T d=> ?_
 have HK:=HB.out.re T d;have HS:=z6 (KS.new (w:=re W2 T d) (H:=fun b=>b<w.heap.size) (hG.keptM HK) (HK.h fun _ hb=>hb) (fun b hb=>by omega) (fun b hb=>j0b hb HK.size));clear HK HB;generalize re W2 T d=W3 at*;go_wp2_with fail
 refine(GI W3).mono ?_;rintro e W4 ⟨rfl,rfl⟩;go_wp2;generalize W3.alloc (.cells #[.slice none 0 0,.slice none 0 0,.slice none 0 0] 102)=V0 at*;generalize W3.heap.size=B at*;refine z7 hP a1 fun T d=> ?_
 have a0 :=z6 (HS.out.re T d);clear HS;generalize re V0 T d=U0 at*;go_wp2;have HS:=z6 a0.out;clear a0;generalize hV:U0=V1 at*;clear hV;refine z7 hP a1 fun T d=> ?_
 have a0 :=z6 (HS.out.re T d);clear HS;generalize re V1 T d=U1 at*;go_wp2_with fail
 refine(a0.out.branch (by omega) [97] (by unfold maxLen;simp) BR).mono ?_;rintro e V2 ⟨rfl,hs⟩;have HS:=z6 hs;clear a0 hs;go_wp2;refine z7 hP a1 fun T d=> ?_
 have a0 :=z6 (HS.out.re T d);clear HS;generalize re V2 T d=U2 at*;go_wp2_with fail
 refine(a0.out.add [97] [110] 7 (by unfold maxLen;simp) (by omega) (by omega) (congrArg Prod.fst EA.out)).mono ?_;rintro e V3 ⟨rfl,hs⟩;rw[show(R.change (R.made aw0 [97] [] false).2 35 [97] [110] 7 []).2=_ from congrArg Prod.snd EA.out]at hs;have HS:=z6 hs;clear a0 hs;go_wp2;refine z7 hP a1 fun T d=> ?_
 have a0 :=z6 (HS.out.re T d);clear HS;generalize re V3 T d=U3 at*;go_wp2_with fail
 refine(a0.out.commit (by omega) [97] (congrArg Prod.fst EC.out)).mono ?_;rintro e V4 ⟨rfl,hs⟩;rw[show(R.commit _ [97]).2=_ from congrArg Prod.snd EC.out]at hs;have HS:=z6 hs;clear a0 hs;go_wp2;refine z7 hP a1 fun T d=> ?_
 have a0 :=z6 (HS.out.re T d);clear HS;generalize re V4 T d=U4 at*;go_wp2_with fail
 refine(a0.out.fork (by omega) [98] [97] (by unfold maxLen;simp) (congrArg Prod.fst E1.out)).mono ?_;rintro e V5 ⟨rfl,hs⟩;rw[show(R.made _ [98] [97] true).2=_ from congrArg Prod.snd E1.out]at hs;have HS:=z6 hs;clear a0 hs;go_wp2;refine z7 hP a1 fun T d=> ?_
 have a0 :=z6 (HS.out.re T d);clear HS;generalize re V5 T d=U5 at*;go_wp2_with fail
 refine(a0.out.fork (by omega) [99] [97] (by unfold maxLen;simp) (congrArg Prod.fst E2.out)).mono ?_;rintro e V6 ⟨rfl,hs⟩;rw[show(R.made _ [99] [97] true).2=_ from congrArg Prod.snd E2.out]at hs;have HS:=z6 hs;clear a0 hs;go_wp2;refine z7 hP a1 fun T d=> ?_
 have a0 :=z6 (HS.out.re T d);clear HS;generalize re V6 T d=U6 at*;clear EA EC E1 E2;go_wp2;have HS:=z6 a0.out;clear a0;generalize hV:U6=V7 at*;clear hV;refine zw hP ?_;refine zN hP 2 a1.thenT rfl rfl rfl LE (by decide) rfl fun T d=> ?_
 have a0 :=z6 (HS.out.re T d);clear HS;generalize re V7 T d=U7 at*;simp only[IP,IQ,IR,IS];go_wp2;refine⟨_,_,by simp[Act.eval],Bc a0.out (by omega) b6.out b8.out,?_⟩;rintro v' V' ⟨rfl,hs⟩ T d;have HS:=z6 (hs.re T d);clear a0 hs;generalize re V' T d=V8 at*;clear V';go_wp2;have b3:=(R.liv0 a6).acts l;have a9:=(R.grows_acts (R.forkS 7 3 a6) l).len;have a5:(R.actsP (R.forkS 7 3 a6) l).cms.length≤51:=a9;obtain⟨b5,b1⟩:=R.lived_of b3 HS.out.inv a5 (a4.out.1.acts a4.out.2 l);have c6:=z6 b5;have b7:=z6 b1;have b9:=z6 ((R.path0 a6).acts l).lived;clear b3 a9 a5 b5 b1;generalize R.actsP (R.forkS 7 3 a6) l=st at*;refine z7 hP a1 fun T d=> ?_
 have a0 :=z6 (HS.out.re T d);clear HS;generalize re V8 T d=U8 at*;go_wp2;go_loopw [11] (fun i wr=>∃k:Nat,k≤3∧i= .int .i64 k∧KS w (fun b=>b<w.heap.size) B (R.lvA st k) (60+k) wr) (fun i _=>3-(intOf i).toNat)
 case atStart=>exact⟨0,sQ _,rfl,a0.out.mono (by omega)⟩
 case round=>
  obtain⟨k,hk,rfl,hs⟩:=hrel;have HS:=z6 hs;clear hs a0;by_cases b2:k<3
  ·obtain⟨a2,a3⟩:=c6.out k b2
   have a8:=z6 (fun W=>Q6 (k:Int) W (by omega) (by omega));rw[R.brN_small k b2]at a8;have d4:(([[97],[98],[99]]:List (List UInt8)).getD k []).length≤10:=ka _ 10 (by decide) k;generalize([[97],[98],[99]]:List (List UInt8)).getD k []=br at*;go_wp2_with fail
   refine(a8.out _).mono ?_;rintro e X1 ⟨rfl,hw⟩;have c7:Hid (KS w (fun b=>b<w.heap.size) B (R.lvA st k) (60+k) X1):=by subst hw;exact HS.out.alloc _
   clear HS hw a8;rcases hr:(R.commit (R.lvA st k) br).1 with⟨r1,r2⟩
   rw[hr]at a2;have HR:=z6 hr;clear hr;go_wp2_with fail
   refine(c7.out.commit (by omega) br HR.out).mono ?_;rintro e X2 ⟨rfl,hs⟩;rw[a3]at hs;have a7:=z6 hs;clear hs HR a3;rcases a2 with a2|a2
   ·have a2:r2=0:=a2
    subst a2;go_wp2;go_roundw
    case rel=>exact⟨k+1,by omega,by simp,a7.out⟩
    case measure=>simp[intOf];omega
   ·have a2:r2=9:=a2
    subst a2;go_wp2;go_roundw
    case rel=>exact⟨k+1,by omega,by simp,a7.out⟩
    case measure=>simp[intOf];omega
  ·have:k=3:=by omega
   subst this;go_wp2;refine z7 hP a1 fun T d=> ?_
   have a7:=z6 (HS.out.re T d);clear HS;generalize re wr T d=X3 at*;go_wp2;refine qa hP ?_;refine⟨rfl,_,fun W=> ?_,⟨B,_,rfl,b7.out,b9.out,a7.out.mono (by decide)⟩⟩;simp[results,Tryz.results16,go_sem]
end
section
theorem KS.tree {w0 w:World}{H:Nat→Prop}{B c:Nat}{st:R.St}(h:KS w0 H B st c w)(n:Int){r:List UInt8×Int}(hr:R.treeAt st n=r):
  Calls rJ 22 #[.pointer (some ⟨B,0,none⟩),.int .i64 n] w fun e w' =>e= .returned (.tuple #[.string ⟨r.1.toArray⟩,.int .i64 r.2])∧KS w0 H B st c w' ∧zf w w' :=by
 subst hr;obtain⟨O,h1,h2,h3,h4,h5,h6⟩:=id h;exact(Bk B st n w O O h1 h3 h5).mono fun e w' ⟨e1,e2⟩=>⟨e1,h.keptM (zf.of_below e2),zf.of_below e2⟩
def du (l:List UInt8):Value:= .string ⟨l.toArray⟩
def trL (st:R.St):List Value:=st.cms.map fun c=>du (R.Written c.tree)
def dD (w0:World)(H:Nat→Prop)(B c:Nat)(st:R.St)(w:World)(e:Ending)(w' :World):Prop:=∃la lc,e= .returned (.slice la st.cms.length lc)∧w'.ownsRow w.heap.size 9 1 (.slice la st.cms.length lc) st.cms.length (trL st)∧KS w0 H B st c w' ∧zf w w'
end
section
structure dR (st:R.St)(name:List UInt8)(L:List Nat)(tt:List UInt8)(h0:Nat):Prop where
 hist:Bd st name=(L,0)
 pos:0<L.length
 le:L.length≤60
 last:∀h:L.length-1<L.length,L[L.length-1]=1
 fall:∀i,1≤i→∀h:i<L.length,L[i]<L[i-1]
 first:∀h:0<L.length,L[0]=h0
 one:1≤h0
 t0:R.treeAt st (h0:Int)=(tt,0)
 b0:R.baseAt st (h0:Int) (h0:Int)=(tt,0)
 n0:h0≤st.cms.length
 sh:R.shown st name=(tt,0)
 each:∀k,∀h:k<L.length,∃s,R.baseAt st (L[k]:Int) (h0:Int)=(s,0)∧R.treeAt st (L[k]:Int)=(s,0)
theorem KS.showK {w0 w:World}{H:Nat→Prop}{B c:Nat}{st:R.St}(h:KS w0 H B st c w)(name:List UInt8){r:List UInt8×Int}(hr:R.shown st name=r):
  Calls rJ 20 #[.pointer (some ⟨B,0,none⟩),.string ⟨name.toArray⟩] w fun e w' =>e= .returned (.tuple #[.string ⟨r.1.toArray⟩,.int .i64 r.2])∧zf w w' :=by
 subst hr;obtain⟨O,h1,h2,h3,h4,h5,h6⟩:=id h;exact(cK B st name w O O h1 h3 h5).mono fun e w' ⟨e1,e2⟩=>⟨e1,zf.of_below e2⟩
structure dQ (w:World)(B:Nat)(st:R.St)(L:List Nat)(g:Nat)(X:World):Prop where
 ks:KS w (fun b=>b<w.heap.size) B st 70 X
 lt:g<X.heap.size
 cell:∀j (h:j<L.length),X.cell? ⟨g,j,none⟩=some (.int .i64 (L[j]:Int))
end
