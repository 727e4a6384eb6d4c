/- Of no statement by itself: Lg (without blanks and remarks). -/
import Derived.Test.YthideplpcnhncaaGreatDoorLf
namespace Go.Proofs.YthideplpcnhncaaGreatDoor
open Go.RowKit
open St12 Sy13 Lz14
set_option linter.unusedVariables false
set_option linter.unusedSimpArgs false
variable {Enc:EncT} {Tb:World→Nat→Prop}
structure Thr (Enc:EncT) (w0 w:World) (a b d:Nat) (F G H:Nat→Prop) (X Y Z:Lz):Prop where
 ab:Two Enc w0 w a b F G X Y
 ed:Enc w w0.heap.size d H Z
 fh:Apt F H
 gh:Apt G H
theorem Thr.new {w0 w w':World}{a b d:Nat}{F G H:Nat→Prop}{X Y Z:Lz}(S:LzSpec Enc Tb)(h:Thr Enc w0 w a b d F G H X Y Z)(hc:Chg (fun _=>False) w w'):Thr Enc w0 w' a b d F G H X Y Z:=⟨h.ab.new S hc,S.new h.ed hc,h.fh,h.gh⟩
theorem Thr.mid {w0 w w':World}{a b d:Nat}{F G G' H:Nat→Prop}{X Y Y' Z:Lz}(S:LzSpec Enc Tb)(h:Thr Enc w0 w a b d F G H X Y Z)(he:Enc w' w0.heap.size b G' Y')(hc:Chg G w w')(hm:Mvd w G G'):Thr Enc w0 w' a b d F G' H X Y' Z:=⟨h.ab.right S he hc hm,S.keep h.ed hc (fun z k g=>h.gh z g k),h.fh,h.gh.move hm (fun z k=>(S.lt h.ed z k).2)⟩
structure Cu (Enc:EncT) (w0 w:World) (a:Nat) (F:Nat→Prop) (X:Lz) (vx vy vz:Value) (nx ny nz:Nat) (xs ys zs:List Nat):Prop where
 ea:Enc w w0.heap.size a F X
 ox:w.ownsRow w0.heap.size 5 1 vx nx (ins .u8 (nums xs))
 oy:w.ownsRow w0.heap.size 5 1 vy ny (ins .u8 (nums ys))
 oz:w.ownsRow w0.heap.size 5 1 vz nz (ins .u8 (nums zs))
 fx: ∀g,vx.ownBlock=some g→ ¬F g
 fy: ∀g,vy.ownBlock=some g→ ¬F g
 fz: ∀g,vz.ownBlock=some g→ ¬F g
 xy: ∀g,vx.ownBlock=some g→vy.ownBlock≠some g
 xz: ∀g,vx.ownBlock=some g→vz.ownBlock≠some g
 yz: ∀g,vy.ownBlock=some g→vz.ownBlock≠some g
 chg:Chg (fun _=>False) w0 w
theorem Cu.new {w0 w w':World}{a nx ny nz:Nat}{F:Nat→Prop}{X:Lz}{vx vy vz:Value}{xs ys zs:List Nat}(S:LzSpec Enc Tb)(h:Cu Enc w0 w a F X vx vy vz nx ny nz xs ys zs)(hc:Chg (fun _=>False) w w'):Cu Enc w0 w' a F X vx vy vz nx ny nz xs ys zs:=⟨S.new h.ea hc,ownsRow_keep h.ox hc (fun _ _ f=>f),ownsRow_keep h.oy hc (fun _ _ f=>f),ownsRow_keep h.oz hc (fun _ _ f=>f),h.fx,h.fy,h.fz,h.xy,h.xz,h.yz,chg_then h.chg hc⟩
theorem Cu.setx {w0 w w':World}{a nx ny nz nx':Nat}{F:Nat→Prop}{X:Lz}{vx vy vz vx':Value}{xs ys zs xs':List Nat}(S:LzSpec Enc Tb)(h:Cu Enc w0 w a F X vx vy vz nx ny nz xs ys zs)(hc:Chg (fun z=>vx.ownBlock=some z) w w')(ho:w'.ownsRow w0.heap.size 5 1 vx' nx' (ins .u8 (nums xs')))(hm:Moved w vx vx'):Cu Enc w0 w' a F X vx' vy vz nx' ny nz xs' ys zs:=by
 have hlt: ∀(v:Value) (n:Nat) (l:List Nat),w.ownsRow w0.heap.size 5 1 v n (ins .u8 (nums l))→(∀g,vx.ownBlock=some g→v.ownBlock≠some g)→ ∀g,vx'.ownBlock=some g→v.ownBlock≠some g:=fun v n l ho2 hne g e e2=>by
  rcases hm g e with k|k
  ·exact hne g k e2
  ·have:=(World.ownsRow.lt ho2 g e2).2;omega
 exact⟨S.keep h.ea hc (fun z f e=>h.fx z e f),ho,ownsRow_keep h.oy hc (fun g e f=>h.xy g f e),ownsRow_keep h.oz hc (fun g e f=>h.xz g f e),fun g e f=>by
  rcases hm g e with k|k
  ·exact h.fx g k f
  ·have:=(S.lt h.ea g f).2;omega,h.fy,h.fz,hlt vy ny ys h.oy h.xy,hlt vz nz zs h.oz h.xz,h.yz,h.chg.trans hc (fun z e=> .inr (World.ownsRow.lt h.ox z e).1)⟩
theorem Cu.swap {w0 w:World}{a nx ny nz:Nat}{F:Nat→Prop}{X:Lz}{vx vy vz:Value}{xs ys zs:List Nat}(h:Cu Enc w0 w a F X vx vy vz nx ny nz xs ys zs):Cu Enc w0 w a F X vy vx vz ny nx nz ys xs zs:=⟨h.ea,h.oy,h.ox,h.oz,h.fy,h.fx,h.fz,fun g e f=>h.xy g f e,h.yz,h.xz,h.chg⟩
theorem Cu.sety {w0 w w':World}{a nx ny nz ny':Nat}{F:Nat→Prop}{X:Lz}{vx vy vz vy':Value}{xs ys zs ys':List Nat}(S:LzSpec Enc Tb)(h:Cu Enc w0 w a F X vx vy vz nx ny nz xs ys zs)(hc:Chg (fun z=>vy.ownBlock=some z) w w')(ho:w'.ownsRow w0.heap.size 5 1 vy' ny' (ins .u8 (nums ys')))(hm:Moved w vy vy'):Cu Enc w0 w' a F X vx vy' vz nx ny' nz xs ys' zs:=(h.swap.setx S hc ho hm).swap
theorem Cu.enc {w0 w w':World}{a nx ny nz:Nat}{F F':Nat→Prop}{X X':Lz}{vx vy vz:Value}{xs ys zs:List Nat}(S:LzSpec Enc Tb)(h:Cu Enc w0 w a F X vx vy vz nx ny nz xs ys zs)(he:Enc w' w0.heap.size a F' X')(hc:Chg F w w')(hm:Mvd w F F'):Cu Enc w0 w' a F' X' vx vy vz nx ny nz xs ys zs:=by
 have hf: ∀(v:Value) (n:Nat) (l:List Nat),w.ownsRow w0.heap.size 5 1 v n (ins .u8 (nums l))→(∀g,v.ownBlock=some g→ ¬F g)→ ∀g,v.ownBlock=some g→ ¬F' g:=fun v n l ho hn g e f=>by
  rcases hm g f with k|k
  ·exact hn g e k
  ·have:=(World.ownsRow.lt ho g e).2;omega
 exact⟨he,ownsRow_keep h.ox hc h.fx,ownsRow_keep h.oy hc h.fy,ownsRow_keep h.oz hc h.fz,hf vx nx xs h.ox h.fx,hf vy ny ys h.oy h.fy,hf vz nz zs h.oz h.fz,h.xy,h.xz,h.yz,h.chg.trans hc (fun z e=> .inr (S.lt h.ea z e).1)⟩
theorem own_put8 {w:World}{B g n cap:Nat}{xs:List Nat}(h:w.ownsRow B 5 1 (.slice (some ⟨g,0,none⟩) n cap) n (ins .u8 (nums xs)))(j x:Nat):(w.setCell ⟨g,j,none⟩ (.int .u8 (x:Int))).ownsRow B 5 1 (.slice (some ⟨g,0,none⟩) n cap) n (ins .u8 (nums (xs.set j x)))∧Chg (fun z=>(Value.slice (some ⟨g,0,none⟩) n cap).ownBlock=some z) w (w.setCell ⟨g,j,none⟩ (.int .u8 (x:Int))):=by
 refine⟨?_,(Chg.refl _ w).setCell (by simp [Value.ownBlock]) _⟩
 have h9:=(World.ownsRow.stored h j (.int .u8 (x:Int))).1
 have e:(ins .u8 (nums xs)).set j (.int .u8 (x:Int))=ins .u8 (nums (xs.set j x)):=by simp [ins,nums,List.map_set]
 rw [e]at h9
 exact h9
theorem own_at8 {w:World}{B g n cap:Nat}{xs:List Nat}(h:w.ownsRow B 5 1 (.slice (some ⟨g,0,none⟩) n cap) n (ins .u8 (nums xs))){j x:Nat}(hj:j<n)(hx:xs[j]?=some x):w.cell? ⟨g,j,none⟩=some (.int .u8 (x:Int))∧w.frozen? ⟨g,j,none⟩=false:=by
 refine⟨?_,World.ownsRow.frozenAt h j⟩
 rw [World.ownsRow.cellAt h j (by omega)]
 simp [ins,nums,hx]
theorem own_len8 {w:World}{B n:Nat}{v:Value}{xs:List Nat}(h:w.ownsRow B 5 1 v n (ins .u8 (nums xs))):xs.length=n:=by
 have h9:=h.1
 simp [ins,nums]at h9
 omega
theorem pLE_nil (w:World):(binOp .eql 27 (.pointer none) (.pointer none)).run Tryz.prog w= .ok (.bool true) w:=by kernel_rfl
theorem Y99_I:(⟨1,153,0,0⟩:Sym).I:=symI' 1 153 0 0 ⟨by decide,by decide⟩ ⟨by decide,by decide⟩ ⟨by decide,by decide⟩ ⟨by decide,by decide⟩
set_option maxHeartbeats 32000000 in
set_option maxRecDepth 100000 in
theorem forks_any (S:LzSpec Enc Tb)(lc lp pb n:Int)(hp:(⟨lc,lp,pb⟩:Prp).I)(hn:I64 n)(ad1:Option Addr)(ca1 len1:Nat)(l1:List Sym)(ad2:Option Addr)(ca2 len2:Nat)(l2:List Sym)(w0:World)(hT:Tb w0 w0.heap.size)(hL1:l1.length=len1)(hl1:SymL w0 ad1 l1)(hle1:len1≤1048576)(hL2:l2.length=len2)(hl2:SymL w0 ad2 l2)(hle2:len2≤1048576):Calls Tryz.prog 4 #[.agg #[.int .i64 lc,.int .i64 lp,.int .i64 pb,.int .i64 n],.slice ad1 len1 ca1,.slice ad2 len2 ca2] w0 fun e w'=>e= .returned (.bool true)∧Chg (fun _=>False) w0 w':=by
 obtain⟨iu,hiu,hu0,hu1,hu2⟩:=info_parts infoU8
 have HT:Hid (Tb w0 w0.heap.size):=hT
 have HO:Hid ((w0.alloc (.cells #[.int .i64 lc,.int .i64 lp,.int .i64 pb,.int .i64 n] 25)).heap[w0.heap.size]?=some (.cells #[.int .i64 lc,.int .i64 lp,.int .i64 pb,.int .i64 n] 25 (0,0))):=heap_alloc_last _ _
 have HC0:Hid (Chg (fun _=>False) w0 (w0.alloc (.cells #[.int .i64 lc,.int .i64 lp,.int .i64 pb,.int .i64 n] 25))):=chg_one _ _
 by_cases hin:allow ⟨lc,lp,pb⟩∧1≤n∧n≤4294967295
 rotate_left
 ·obtain⟨er,her,hN⟩: ∃er:Int,er≠0∧ ∀w,Tb w w0.heap.size→w0.heap.size≤w.heap.size→Calls Tryz.prog 7 #[.agg #[.int .i64 lc,.int .i64 lp,.int .i64 pb],.int .i64 n] w fun e w'=>e= .returned (.tuple #[.pointer none,.int .i64 er])∧Chg (fun _=>False) w w':=by
   by_cases ha:allow ⟨lc,lp,pb⟩
   ·exact⟨7,by decide,fun w h1 h2=>S.newN w0.heap.size ⟨lc,lp,pb⟩ n w h1 h2 hp hn ha (by have: ¬(1≤n∧n≤4294967295):=fun e=>hin ⟨ha,e⟩;omega)⟩
   ·exact⟨6,by decide,fun w h1 h2=>S.newP w0.heap.size ⟨lc,lp,pb⟩ n w h1 h2 hp hn ha⟩
  have HN:Hid _:=hN
  have q1:(er==0)=false:=by rw [beq_eq_false_iff_ne];exact her
  have q2:(er !=0)=true:=by simp [her]
  have q3:decide (er=0)=false:=decide_eq_false her
  have hnn:=pLE_nil
  obtain⟨o0,o1,o2,o3⟩:=cells4y HO.out
  clear hN her hin hl1 hL1 hl2 hL2 hT
  go_enter Tryz.func4,Tryz.ntmps4
  go_wp2_with fail
  refine(HN.out _ (S.tn HT.out HC0.out) HC0.out.size).mono ?_
  rintro z w1 ⟨rfl,c1⟩
  have HC1:Hid (Chg (fun _=>False) w0 w1):=chg_then HC0.out c1
  clear c1 HC0 HO o0 o1 o2 o3 HN
  go_wp2_with fail
  refine(num_any er w1).mono ?_
  rintro z w3 ⟨rfl,rfl⟩
  go_wp2_with fail
  refine(num_any er w1).mono ?_
  rintro z w3 ⟨rfl,rfl⟩
  go_wp2_with fail
  refine(known_any S w0.heap.size w1 (S.tn HT.out HC1.out) HC1.out.size).mono ?_
  rintro z w3 ⟨rfl,c3⟩
  have HC3:Hid (Chg (fun _=>False) w0 w3):=chg_then HC1.out c3
  clear c3 HC1
  go_wp2
  go_ret
  exact⟨rfl,HC3.out⟩
 ·obtain⟨ha,hn1,hn2⟩:=hin
  obtain⟨m,rfl⟩: ∃m:Nat,n=(m:Int):=⟨n.toNat,by omega⟩
  have hm1:1≤m:=by omega
  have hm2:m≤4294967295:=by omega
  have HN:Hid (∀w,Tb w w0.heap.size→w0.heap.size≤w.heap.size→Calls Tryz.prog 7 #[.agg #[.int .i64 lc,.int .i64 lp,.int .i64 pb],.int .i64 (m:Int)] w fun e w'=> ∃a F,e= .returned (.tuple #[.pointer (some ⟨a,0,none⟩),.int .i64 0])∧Enc w' w.heap.size a F (newA ⟨lc,lp,pb⟩ m)∧Chg (fun _=>False) w w'):=fun w h1 h2=>S.newIn w0.heap.size ⟨lc,lp,pb⟩ m w h1 h2 hp ha hm1 hm2
  have HI0:Hid (I (newA ⟨lc,lp,pb⟩ m)):=new_I ha hm1 hm2
  have HP0:Hid ((newA ⟨lc,lp,pb⟩ m).c.e.k=0∧(newA ⟨lc,lp,pb⟩ m).bs.length=0):=⟨rfl,rfl⟩
  have HSL1:Hid (SymL w0 ad1 l1):=hl1
  have HLN1:Hid (l1.length=len1):=hL1
  have HSL2:Hid (SymL w0 ad2 l2):=hl2
  have HLN2:Hid (l2.length=len2):=hL2
  obtain⟨X0,hX0⟩: ∃X0,newA ⟨lc,lp,pb⟩ m=X0:=⟨_,rfl⟩
  rw [hX0]at HN HI0 HP0
  obtain⟨o0,o1,o2,o3⟩:=cells4y HO.out
  clear hl1 hL1 hl2 hL2 hT ha hn1 hn2 hp hn hX0
  go_enter Tryz.func4,Tryz.ntmps4
  go_wp2_with fail
  refine(HN.out _ (S.tn HT.out HC0.out) HC0.out.size).mono ?_
  rintro z w1 ⟨a,F0,rfl,he1,c1⟩
  have HC1:Hid (Chg (fun _=>False) w0 w1):=chg_then HC0.out c1
  have HE1:Hid (Enc w1 w0.heap.size a F0 X0):=S.down he1 HC0.out.size
  have hna:=pLE_ne ⟨a,0,none⟩
  clear c1 HC0 HO o0 o1 o2 o3 he1 HN
  go_wp2_with fail
  refine(num_any 0 w1).mono ?_
  rintro z w3 ⟨rfl,rfl⟩
  go_wp2_with fail
  go_loopw [55] (fun v1 wr=> ∃(i:Nat) (F:Nat→Prop) (X:Lz),i≤len1∧v1= .int .i64 (i:Int)∧Hid (Enc wr w0.heap.size a F X∧Chg (fun _=>False) w0 wr∧I X∧X.c.e.k≤103*i∧X.bs.length≤273*i)) (fun v1 _=>len1-(intOf v1).toNat)
  case atStart=>exact⟨0,F0,X0,by omega,rfl,HE1.out,HC1.out,HI0.out,by rw [HP0.out.1];omega,by rw [HP0.out.2];omega⟩
  case round=>
   clear HE1 HC1 HI0 HP0
   obtain⟨i,F,X,hi,rfl,HJ⟩:=hrel
   have hii:(i:Int)≤(len1:Int):=by omega
   have hle3:(len1:Int)≤1048576:=by omega
   by_cases hlt:i<len1
   ·have hd1:decide ((i:Int)<(len1:Int))=true:=by simp;omega
    have hd1':decide (i<len1)=true:=decide_eq_true hlt
    obtain⟨y,hy⟩: ∃y,l1[i]?=some y:=⟨l1[i]'(by have:=HLN1.out;omega),List.getElem?_eq_getElem _⟩
    obtain⟨hyi,lb,lo,had,k0,k1,k2,k3⟩:=HSL1.out.new HJ.out.2.1 i y hy
    have HYI:Hid y.I:=hyi
    have cY:=chg_one wr (.cells #[.int .i64 y.k,.int .u8 y.y,.int .i64 y.l,.int .i64 y.d] 34)
    have HYB:Hid ((wr.alloc (.cells #[.int .i64 y.k,.int .u8 y.y,.int .i64 y.l,.int .i64 y.d] 34)).heap[wr.heap.size]?=some (.cells #[.int .i64 y.k,.int .u8 y.y,.int .i64 y.l,.int .i64 y.d] 34 (0,0))):=heap_alloc_last _ _
    have HE:Hid (Enc (wr.alloc (.cells #[.int .i64 y.k,.int .u8 y.y,.int .i64 y.l,.int .i64 y.d] 34)) w0.heap.size a F X∧Chg (fun _=>False) w0 (wr.alloc (.cells #[.int .i64 y.k,.int .u8 y.y,.int .i64 y.l,.int .i64 y.d] 34))):=⟨S.new HJ.out.1 cY,chg_then HJ.out.2.1 cY⟩
    have HB:Hid (I X∧X.c.e.k≤103*i∧X.bs.length≤273*i):=HJ.out.2.2
    obtain⟨y0,y1,y2,y3⟩:=cells4y HYB.out
    subst had
    clear hy hyi cY HJ
    go_wp2_with fail
    generalize wr.alloc (.cells #[.int .i64 y.k,.int .u8 y.y,.int .i64 y.l,.int .i64 y.d] 34)=W at*
    generalize wr.heap.size=gy at*
    clear k0 k1 k2 k3
    refine(S.put w0.heap.size a F X y W HE.out.1 (S.tn HT.out HE.out.2) HE.out.2.size HB.out.1 HYI.out (by have:=HB.out.2.2;omega) (by have:=HB.out.2.1;omega)).mono ?_
    rintro z w6 ⟨rfl,F',he6,c6,m6⟩
    have HN6:Hid (Enc w6 w0.heap.size a F' (putA X y)∧Chg (fun _=>False) w0 w6∧I (putA X y)∧(putA X y).c.e.k≤103*(i+1)∧(putA X y).bs.length≤273*(i+1)):=⟨he6,HE.out.2.trans c6 (fun z f=> .inr (S.lt HE.out.1 z f).1),put_I HB.out.1 HYI.out.y,by have h1:=(put_k X y).2;have h2:=HB.out.2.1;omega,by have h1:=put_len X y;have h2:=HB.out.2.2;omega⟩
    clear he6 c6 m6 HE HB HYB y0 y1 y2 y3
    go_wp2_with fail
    exact⟨⟨i+1,F',putA X y,by omega,by go_num,HN6.out⟩,by simp [intOf];omega⟩
   ·have hd1:decide ((i:Int)<(len1:Int))=false:=by simp;omega
    have hd1':decide (i<len1)=false:=decide_eq_false hlt
    obtain⟨hE,hC,hI,hK,hBL⟩:=HJ.out
    have HE:Hid (Enc wr w0.heap.size a F X):=hE
    have HC:Hid (Chg (fun _=>False) w0 wr):=hC
    have HI:Hid (I X):=hI
    have HB:Hid (X.c.e.k≤103*len1∧X.bs.length≤273*len1):=⟨by omega,by omega⟩
    clear HJ hE hC hI hK hBL
    go_wp2_with fail
    refine(S.fork w0.heap.size a F X wr HE.out HI.out (by have:=HB.out.1;omega)).mono ?_
    rintro z w5 ⟨b,G0,rfl,he5,c5⟩
    have HTW0:Hid (Two Enc w0 w5 a b F G0 X X):=⟨S.new HE.out c5,S.down he5 HC.out.size,fun z f g=>by
     have k1:=(S.lt HE.out z f).2
     have k2:=(S.lt he5 z g).1
     omega,chg_then HC.out c5⟩
    have hnb:=pLE_ne ⟨b,0,none⟩
    clear he5 c5 HE HC
    go_wp2_with fail
    go_loopw [69] (fun v1 wr=> ∃(i:Nat) (F G:Nat→Prop) (X:Lz),i≤len2∧v1= .int .i64 (i:Int)∧Hid (Two Enc w0 wr a b F G X X∧I X∧X.c.e.k≤103*(len1+i)∧X.bs.length≤273*(len1+i))) (fun v1 _=>len2-(intOf v1).toNat)
    case atStart=>exact⟨0,F,G0,X,by omega,rfl,HTW0.out,HI.out,HB.out⟩
    case round=>
     clear HTW0 HI HB
     obtain⟨i,F,G,X,hi,rfl,HJ⟩:=hrel
     have hii:(i:Int)≤(len2:Int):=by omega
     have hle4:(len2:Int)≤1048576:=by omega
     have HTW:Hid (Two Enc w0 wr a b F G X X):=HJ.out.1
     have HI:Hid (I X):=HJ.out.2.1
     have HB:Hid (X.c.e.k≤103*(len1+i)∧X.bs.length≤273*(len1+i)):=HJ.out.2.2
     have HKB:Hid (X.bs.length+273≤1152921504606846976∧X.c.e.k+1024≤140737488355328):=⟨by have:=HB.out.2;omega,by have:=HB.out.1;omega⟩
     clear HJ
     by_cases hlt:i<len2
     ·have hd1:decide ((i:Int)<(len2:Int))=true:=by simp;omega
      have hd1':decide (i<len2)=true:=decide_eq_true hlt
      obtain⟨y,hy⟩: ∃y,l2[i]?=some y:=⟨l2[i]'(by have:=HLN2.out;omega),List.getElem?_eq_getElem _⟩
      obtain⟨hyi,lb,lo,had,k0,k1,k2,k3⟩:=HSL2.out.new HTW.out.chg i y hy
      have HYI:Hid y.I:=hyi
      have cY:=chg_one wr (.cells #[.int .i64 y.k,.int .u8 y.y,.int .i64 y.l,.int .i64 y.d] 34)
      have HYB:Hid ((wr.alloc (.cells #[.int .i64 y.k,.int .u8 y.y,.int .i64 y.l,.int .i64 y.d] 34)).heap[wr.heap.size]?=some (.cells #[.int .i64 y.k,.int .u8 y.y,.int .i64 y.l,.int .i64 y.d] 34 (0,0))):=heap_alloc_last _ _
      have HT1:Hid (Two Enc w0 (wr.alloc (.cells #[.int .i64 y.k,.int .u8 y.y,.int .i64 y.l,.int .i64 y.d] 34)) a b F G X X):=HTW.out.new S cY
      have HNF:Hid (¬F wr.heap.size∧ ¬G wr.heap.size):=⟨fun f=>by have:=(S.lt HTW.out.ea _ f).2;omega,fun f=>by have:=(S.lt HTW.out.eb _ f).2;omega⟩
      obtain⟨er,her⟩: ∃er,errA X y=er:=⟨_,rfl⟩
      obtain⟨cs,hcs⟩: ∃cs,costA X y=cs:=⟨_,rfl⟩
      obtain⟨k,hk⟩: ∃k,X.c.e.k=k:=⟨_,rfl⟩
      obtain⟨X2,hX2⟩: ∃X2,putA X y=X2:=⟨_,rfl⟩
      obtain⟨kk,hkk⟩: ∃kk,X2.c.e.k=kk:=⟨_,rfl⟩
      have HER:Hid (errA X y=er):=her
      have HCS:Hid (costA X y=cs):=hcs
      have HKK:Hid (X.c.e.k=k):=hk
      have HX2:Hid (putA X y=X2):=hX2
      have HK2:Hid (X2.c.e.k=kk):=hkk
      have hkb:(k:Int)≤140737488355328:=by have:=HKB.out.2;omega
      have HKKB:Hid (kk≤k+103):=by have h1:=(put_k X y).2;rw [hX2,hkk,hk]at h1;exact h1
      have hkb2:(kk:Int)≤140737488355328:=by have:=HKB.out.2;have:=HKKB.out;omega
      have HSZ:Hid (∀(p kx:Nat) w F Y,Y.c.e.k=kx→kx≤k+103→Enc w w0.heap.size p F Y→Calls Tryz.prog 10 #[.pointer (some ⟨p,0,none⟩)] w fun e w'=>e= .returned (.int .i64 ((kx:Int)+5))∧Chg (fun _=>False) w w'):=fun p kx w F Y e hkx h=>by
       have h9:=S.size w0.heap.size p F Y w h (by have:=HKB.out.2;omega)
       rw [e]at h9
       exact h9
      have HCO:Hid (∀(p:Nat) w F,Enc w w0.heap.size p F X→Tb w w0.heap.size→w0.heap.size≤w.heap.size→Calls Tryz.prog 15 #[.pointer (some ⟨p,0,none⟩),.agg #[.int .i64 y.k,.int .u8 y.y,.int .i64 y.l,.int .i64 y.d]] w fun e w'=>e= .returned (.tuple #[.int .i64 cs,.int .i64 er])∧ ∃F',Enc w' w0.heap.size p F' X∧Chg F w w'∧Mvd w F F'):=fun p w F h1 h2 h3=>by
       have h9:=S.cost w0.heap.size p F X y w h1 h2 h3 HI.out HYI.out HKB.out.1
       rw [HER.out,HCS.out]at h9
       exact h9
      have HPU:Hid (∀(p:Nat) w F,Enc w w0.heap.size p F X→Tb w w0.heap.size→w0.heap.size≤w.heap.size→Calls Tryz.prog 11 #[.pointer (some ⟨p,0,none⟩),.agg #[.int .i64 y.k,.int .u8 y.y,.int .i64 y.l,.int .i64 y.d]] w fun e w'=>e= .returned (.int .i64 er)∧ ∃F',Enc w' w0.heap.size p F' X2∧Chg F w w'∧Mvd w F F'):=fun p w F h1 h2 h3=>by
       have h9:=S.put w0.heap.size p F X y w h1 h2 h3 HI.out HYI.out HKB.out.1 (by have:=HKB.out.2;omega)
       rw [HER.out,HX2.out]at h9
       exact h9
      subst had
      clear hy hyi cY her hk hcs hX2 hkk HTW
      go_wp2_with fail
      generalize wr.alloc (.cells #[.int .i64 y.k,.int .u8 y.y,.int .i64 y.l,.int .i64 y.d] 34)=W at*
      generalize wr.heap.size=gy at*
      clear k0 k1 k2 k3
      obtain⟨y0,y1,y2,y3⟩:=cells4y HYB.out
      go_wp2_with fail
      refine(HCO.out a W F HT1.out.ea (HT1.out.tb S HT.out) HT1.out.chg.size).mono ?_
      rintro z w5 ⟨rfl,F5,he5,c5,m5⟩
      have HT5:Hid (Two Enc w0 w5 a b F5 G X X):=HT1.out.left S he5 c5 m5
      have HY5:Hid (w5.heap[gy]?=some (.cells #[.int .i64 y.k,.int .u8 y.y,.int .i64 y.l,.int .i64 y.d] 34 (0,0))):=blk_keep HYB.out c5 HNF.out.1
      have HN5:Hid (¬F5 gy∧ ¬G gy):=⟨mvd_ne m5 HNF.out.1 (lt_of_blk HYB.out),HNF.out.2⟩
      clear he5 c5 m5 HT1 HYB HNF y0 y1 y2 y3
      go_wp2_with fail
      refine(HSZ.out a k w5 F5 X HKK.out (by omega) HT5.out.ea).mono ?_
      rintro z w6 ⟨rfl,c6⟩
      have HT6:Hid (Two Enc w0 w6 a b F5 G X X):=HT5.out.new S c6
      have HY6:Hid (w6.heap[gy]?=some (.cells #[.int .i64 y.k,.int .u8 y.y,.int .i64 y.l,.int .i64 y.d] 34 (0,0))):=blk_keep HY5.out c6 (fun f=>f)
      clear c6 HT5 HY5
      obtain⟨y0,y1,y2,y3⟩:=cells4y HY6.out
      go_wp2_with fail
      refine(HCO.out b w6 G HT6.out.eb (HT6.out.tb S HT.out) HT6.out.chg.size).mono ?_
      rintro z w7 ⟨rfl,G7,he7,c7,m7⟩
      have HT7:Hid (Two Enc w0 w7 a b F5 G7 X X):=HT6.out.right S he7 c7 m7
      have HY7:Hid (w7.heap[gy]?=some (.cells #[.int .i64 y.k,.int .u8 y.y,.int .i64 y.l,.int .i64 y.d] 34 (0,0))):=blk_keep HY6.out c7 HN5.out.2
      have HN7:Hid (¬F5 gy∧ ¬G7 gy):=⟨HN5.out.1,mvd_ne m7 HN5.out.2 (lt_of_blk HY6.out)⟩
      clear he7 c7 m7 HT6 HY6 HN5 y0 y1 y2 y3
      have q1:(cs !=cs)=false:=by simp
      have q2:(er !=er)=false:=by simp
      have q3:(((k:Int)+5) !=(k:Int)+5)=false:=by simp
      have q4:(((kk:Int)+5) !=(kk:Int)+5)=false:=by simp
      go_wp2_with fail
      refine(num_any er w7).mono ?_
      rintro z w8 ⟨rfl,rfl⟩
      go_wp2_with fail
      refine(num_any er w7).mono ?_
      rintro z w8 ⟨rfl,rfl⟩
      go_wp2_with fail
      refine(HSZ.out b k w7 G7 X HKK.out (by omega) HT7.out.eb).mono ?_
      rintro z w8 ⟨rfl,c8⟩
      have HT8:Hid (Two Enc w0 w8 a b F5 G7 X X):=HT7.out.new S c8
      have HY8:Hid (w8.heap[gy]?=some (.cells #[.int .i64 y.k,.int .u8 y.y,.int .i64 y.l,.int .i64 y.d] 34 (0,0))):=blk_keep HY7.out c8 (fun f=>f)
      clear c8 HT7 HY7
      obtain⟨y0,y1,y2,y3⟩:=cells4y HY8.out
      go_wp2_with fail
      refine(HPU.out a w8 F5 HT8.out.ea (HT8.out.tb S HT.out) HT8.out.chg.size).mono ?_
      rintro z w9 ⟨rfl,F9,he9,c9,m9⟩
      have HT9:Hid (Two Enc w0 w9 a b F9 G7 X2 X):=HT8.out.left S he9 c9 m9
      have HY9:Hid (w9.heap[gy]?=some (.cells #[.int .i64 y.k,.int .u8 y.y,.int .i64 y.l,.int .i64 y.d] 34 (0,0))):=blk_keep HY8.out c9 HN7.out.1
      have HN9:Hid (¬F9 gy∧ ¬G7 gy):=⟨mvd_ne m9 HN7.out.1 (lt_of_blk HY8.out),HN7.out.2⟩
      clear he9 c9 m9 HT8 HY8 HN7 y0 y1 y2 y3
      go_wp2_with fail
      refine(num_any er w9).mono ?_
      rintro z w10 ⟨rfl,rfl⟩
      go_wp2_with fail
      refine(num_any er w9).mono ?_
      rintro z w10 ⟨rfl,rfl⟩
      go_wp2_with fail
      have HNB:Hid (I X2∧X2.c.e.k≤103*(len1+(i+1))∧X2.bs.length≤273*(len1+(i+1))):=by
       rw [←HX2.out]
       refine⟨put_I HI.out HYI.out.y,?_,?_⟩
       ·have h1:=(put_k X y).2;have h2:=HB.out.1;omega
       ·have h1:=put_len X y;have h2:=HB.out.2;omega
      by_cases he:er=0
      ·subst he
       have hcp: ¬cs<1:=by
        have h9:=cost_pos HI.out HER.out
        rw [HCS.out]at h9
        omega
       have q5:decide (cs<1)=false:=decide_eq_false hcp
       refine(num_any 0 w9).mono ?_
       rintro z w10 ⟨rfl,rfl⟩
       go_wp2_with fail
       refine(num_any 0 w9).mono ?_
       rintro z w10 ⟨rfl,rfl⟩
       go_wp2_with fail
       refine(HSZ.out b k w9 G7 X HKK.out (by omega) HT9.out.eb).mono ?_
       rintro z w11 ⟨rfl,c11⟩
       have HT11:Hid (Two Enc w0 w11 a b F9 G7 X2 X):=HT9.out.new S c11
       have HY11:Hid (w11.heap[gy]?=some (.cells #[.int .i64 y.k,.int .u8 y.y,.int .i64 y.l,.int .i64 y.d] 34 (0,0))):=blk_keep HY9.out c11 (fun f=>f)
       clear c11 HT9 HY9
       obtain⟨y0,y1,y2,y3⟩:=cells4y HY11.out
       go_wp2_with fail
       refine(HPU.out b w11 G7 HT11.out.eb (HT11.out.tb S HT.out) HT11.out.chg.size).mono ?_
       rintro z w12 ⟨rfl,G12,he12,c12,m12⟩
       have HT12:Hid (Two Enc w0 w12 a b F9 G12 X2 X2):=HT11.out.right S he12 c12 m12
       clear he12 c12 m12 HT11 HY11 HN9 y0 y1 y2 y3
       go_wp2_with fail
       refine(num_any _ w12).mono ?_
       rintro z w13 ⟨rfl,rfl⟩
       go_wp2_with fail
       refine(num_any _ w12).mono ?_
       rintro z w13 ⟨rfl,rfl⟩
       go_wp2_with fail
       refine(HSZ.out b kk w12 G12 X2 HK2.out HKKB.out HT12.out.eb).mono ?_
       rintro z w13 ⟨rfl,c13⟩
       have HT13:Hid (Two Enc w0 w13 a b F9 G12 X2 X2):=HT12.out.new S c13
       clear c13 HT12
       go_wp2_with fail
       refine(HSZ.out a kk w13 F9 X2 HK2.out HKKB.out HT13.out.ea).mono ?_
       rintro z w14 ⟨rfl,c14⟩
       have HT14:Hid (Two Enc w0 w14 a b F9 G12 X2 X2):=HT13.out.new S c14
       clear c14 HT13
       go_wp2_with fail
       exact⟨⟨i+1,F9,G12,X2,by omega,by go_num,HT14.out,HNB.out⟩,by simp [intOf];omega⟩
      ·have q6:(er==0)=false:=by rw [beq_eq_false_iff_ne];exact he
       have q6':(er !=0)=true:=by simp [he]
       have q6'':decide (er=0)=false:=decide_eq_false he
       have hc0:cs=0:=by
        have h9:=HCS.out
        unfold costA at h9
        rw [HER.out,if_pos he]at h9
        exact h9.symm
       have HXX:Hid (X2.c.e.k=k):=by
        have h9:=put_no (X:=X) (y:=y) (by rw [HER.out];exact he)
        rw [HX2.out]at h9
        rw [h9]
        exact HKK.out
       subst hc0
       refine(num_any er w9).mono ?_
       rintro z w10 ⟨rfl,rfl⟩
       go_wp2_with fail
       refine(HSZ.out a k w9 F9 X2 HXX.out (by omega) HT9.out.ea).mono ?_
       rintro z w10 ⟨rfl,c10⟩
       have HT10:Hid (Two Enc w0 w10 a b F9 G7 X2 X):=HT9.out.new S c10
       have HY10:Hid (w10.heap[gy]?=some (.cells #[.int .i64 y.k,.int .u8 y.y,.int .i64 y.l,.int .i64 y.d] 34 (0,0))):=blk_keep HY9.out c10 (fun f=>f)
       clear c10 HT9 HY9
       have HT9:Hid (Two Enc w0 w10 a b F9 G7 X2 X):=HT10.out
       have HY9:Hid (w10.heap[gy]?=some (.cells #[.int .i64 y.k,.int .u8 y.y,.int .i64 y.l,.int .i64 y.d] 34 (0,0))):=HY10.out
       clear HT10 HY10
       go_wp2_with fail
       refine(num_any er w10).mono ?_
       rintro z w11 ⟨rfl,rfl⟩
       generalize w10=w9 at*
       go_wp2_with fail
       refine(HSZ.out b k w9 G7 X HKK.out (by omega) HT9.out.eb).mono ?_
       rintro z w11 ⟨rfl,c11⟩
       have HT11:Hid (Two Enc w0 w11 a b F9 G7 X2 X):=HT9.out.new S c11
       have HY11:Hid (w11.heap[gy]?=some (.cells #[.int .i64 y.k,.int .u8 y.y,.int .i64 y.l,.int .i64 y.d] 34 (0,0))):=blk_keep HY9.out c11 (fun f=>f)
       clear c11 HT9 HY9
       obtain⟨y0,y1,y2,y3⟩:=cells4y HY11.out
       go_wp2_with fail
       refine(HPU.out b w11 G7 HT11.out.eb (HT11.out.tb S HT.out) HT11.out.chg.size).mono ?_
       rintro z w12 ⟨rfl,G12,he12,c12,m12⟩
       have HT12:Hid (Two Enc w0 w12 a b F9 G12 X2 X2):=HT11.out.right S he12 c12 m12
       clear he12 c12 m12 HT11 HY11 HN9 y0 y1 y2 y3
       go_wp2_with fail
       refine(num_any _ w12).mono ?_
       rintro z w13 ⟨rfl,rfl⟩
       go_wp2_with fail
       refine(num_any _ w12).mono ?_
       rintro z w13 ⟨rfl,rfl⟩
       go_wp2_with fail
       refine(HSZ.out b kk w12 G12 X2 HK2.out HKKB.out HT12.out.eb).mono ?_
       rintro z w13 ⟨rfl,c13⟩
       have HT13:Hid (Two Enc w0 w13 a b F9 G12 X2 X2):=HT12.out.new S c13
       clear c13 HT12
       go_wp2_with fail
       refine(HSZ.out a kk w13 F9 X2 HK2.out HKKB.out HT13.out.ea).mono ?_
       rintro z w14 ⟨rfl,c14⟩
       have HT14:Hid (Two Enc w0 w14 a b F9 G12 X2 X2):=HT13.out.new S c14
       clear c14 HT13
       go_wp2_with fail
       exact⟨⟨i+1,F9,G12,X2,by omega,by go_num,HT14.out,HNB.out⟩,by simp [intOf];omega⟩
     ·have hd1:decide ((i:Int)<(len2:Int))=false:=by simp;omega
      have hd1':decide (i<len2)=false:=decide_eq_false hlt
      obtain⟨k,hk⟩: ∃k,X.c.e.k=k:=⟨_,rfl⟩
      have HKK:Hid (X.c.e.k=k):=hk
      have hkb:(k:Int)≤140737488355328:=by have:=HKB.out.2;omega
      have HKL:Hid (k+1024≤140737488355328):=by have:=HKB.out.2;show _≤_;omega
      have HSZ:Hid (∀(p kx:Nat) w F Y,Y.c.e.k=kx→kx≤140737488355328→Enc w w0.heap.size p F Y→Calls Tryz.prog 10 #[.pointer (some ⟨p,0,none⟩)] w fun e w'=>e= .returned (.int .i64 ((kx:Int)+5))∧Chg (fun _=>False) w w'):=fun p kx w F Y e hkx h=>by
       have h9:=S.size w0.heap.size p F Y w h (by omega)
       rw [e]at h9
       exact h9
      clear hk
      go_wp2_with fail
      refine(S.fork w0.heap.size b G X wr HTW.out.eb HI.out (by have:=HKB.out.2;omega)).mono ?_
      rintro z w5 ⟨d,H0,rfl,he5,c5⟩
      have HTH5:Hid (Thr Enc w0 w5 a b d F G H0 X X X):=⟨HTW.out.new S c5,S.down he5 HTW.out.chg.size,fun z f g=>by
       have k1:=(S.lt HTW.out.ea z f).2
       have k2:=(S.lt he5 z g).1
       omega,fun z f g=>by
       have k1:=(S.lt HTW.out.eb z f).2
       have k2:=(S.lt he5 z g).1
       omega⟩
      clear he5 c5 HTW
      go_wp2_with fail
      refine(HSZ.out a k w5 F X HKK.out (by omega) HTH5.out.ab.ea).mono ?_
      rintro z w6 ⟨rfl,c6⟩
      have HTH6:Hid (Thr Enc w0 w6 a b d F G H0 X X X):=HTH5.out.new S c6
      clear c6 HTH5
      go_wp2_with fail
      go_loopw [159] (fun v1 wq=> ∃(j:Nat) (G:Nat→Prop) (Y:Lz),j≤3∧v1= .int .i64 (j:Int)∧Hid (Thr Enc w0 wq a b d F G H0 X Y X∧I Y∧Y.c.e.k≤k+103*j∧Y.bs.length≤273*(len1+len2+j))) (fun v1 _=>3-(intOf v1).toNat)
      case atStart=>exact⟨0,G,X,by omega,rfl,HTH6.out,HI.out,by rw [HKK.out];omega,by have:=HB.out.2;omega⟩
      case round=>
       clear HTH6
       obtain⟨j,G,Y,hj,rfl,HJ⟩:=hrel
       have hj3:(j:Int)≤3:=by omega
       have HTH:Hid (Thr Enc w0 wr a b d F G H0 X Y X):=HJ.out.1
       have HIY:Hid (I Y):=HJ.out.2.1
       have HBY:Hid (Y.c.e.k≤k+103*j∧Y.bs.length≤273*(len1+len2+j)):=HJ.out.2.2
       clear HJ
       by_cases hlj:j<3
       ·have hd2:decide ((j:Int)<3)=true:=by simp;omega
        have hd2':decide (j<3)=true:=decide_eq_true hlj
        have HPU:Hid (Calls Tryz.prog 11 #[.pointer (some ⟨b,0,none⟩),.agg #[.int .i64 1,.int .u8 153,.int .i64 0,.int .i64 0]] wr fun e w'=>e= .returned (.int .i64 (errA Y ⟨1,153,0,0⟩))∧ ∃F',Enc w' w0.heap.size b F' (putA Y ⟨1,153,0,0⟩)∧Chg G wr w'∧Mvd wr G F'):=S.put w0.heap.size b G Y ⟨1,153,0,0⟩ wr HTH.out.ab.eb (HTH.out.ab.tb S HT.out) HTH.out.ab.chg.size HIY.out Y99_I (by have:=HBY.out.2;omega) (by have:=HBY.out.1;have:=HKL.out;omega)
        go_wp2_with fail
        refine Calls.mono HPU.out ?_
        rintro z w8 ⟨rfl,G8,he8,c8,m8⟩
        have HN8:Hid (Thr Enc w0 w8 a b d F G8 H0 X (putA Y ⟨1,153,0,0⟩) X∧I (putA Y ⟨1,153,0,0⟩)∧(putA Y ⟨1,153,0,0⟩).c.e.k≤k+103*(j+1)∧(putA Y ⟨1,153,0,0⟩).bs.length≤273*(len1+len2+(j+1))):=⟨HTH.out.mid S he8 c8 m8,put_I HIY.out ⟨by decide,by decide⟩,by have h1:=(put_k Y ⟨1,153,0,0⟩).2;have h2:=HBY.out.1;omega,by have h1:=put_len Y ⟨1,153,0,0⟩;have h2:=HBY.out.2;omega⟩
        clear he8 c8 m8 HTH HIY HBY HPU
        go_wp2_with fail
        exact⟨⟨j+1,G8,putA Y ⟨1,153,0,0⟩,by omega,by go_num,HN8.out⟩,by simp [intOf];omega⟩
       ·have hd2:decide ((j:Int)<3)=false:=by simp;omega
        have hd2':decide (j<3)=false:=decide_eq_false hlj
        have HKY:Hid (Y.c.e.k+5≤140737488355328):=by have h1:=HBY.out.1;have h2:=HKL.out;show _≤_;omega
        have HIC:Hid (I (clearA Y)):=clear_I HIY.out
        obtain⟨yk,hyk⟩: ∃yk,Y.c.e.k=yk:=⟨_,rfl⟩
        go_wp2_with fail
        refine(S.clear w0.heap.size b G Y wr HTH.out.ab.eb (HTH.out.ab.tb S HT.out) HTH.out.ab.chg.size HIY.out).mono ?_
        rintro z w8 ⟨rfl,G8,he8,c8,m8⟩
        have HT8:Hid (Thr Enc w0 w8 a b d F G8 H0 X (clearA Y) X):=HTH.out.mid S he8 c8 m8
        clear he8 c8 m8 HTH HIY HBY
        go_wp2_with fail
        refine(S.cut w0.heap.size a F X w8 HT8.out.ab.ea HT8.out.ab.chg.size HI.out (by have:=HKB.out.2;omega)).mono ?_
        rintro z w9 ⟨vx,F9,rfl,he9,hx9,hf9,c9,m9⟩
        have HX9:Hid (w9.ownsRow w8.heap.size 5 1 vx (k+5) (ins .u8 (nums (Rc.by_ X.c.e)))):=by have h9:=hx9;rw [HKK.out]at h9;exact h9
        have HA9:Hid (Two Enc w0 w9 a b F9 G8 (Lz14.cutA X) (clearA Y)):=HT8.out.ab.left S he9 c9 m9
        have HD9:Hid (Enc w9 w0.heap.size d H0 X):=S.keep HT8.out.ed c9 (fun z h f=>HT8.out.fh z f h)
        have HP9:Hid (Apt F9 H0∧Apt G8 H0):=⟨HT8.out.fh.move m9 (fun z h=>(S.lt HT8.out.ed z h).2),HT8.out.gh⟩
        have HN9:Hid (∀g,vx.ownBlock=some g→ ¬F9 g∧ ¬G8 g∧ ¬H0 g):=fun g e=>⟨hf9 g e,fun f=>by
         have k1:=(World.ownsRow.lt hx9 g e).1
         have k2:=(S.lt HT8.out.ab.eb g f).2
         omega,fun f=>by
         have k1:=(World.ownsRow.lt hx9 g e).1
         have k2:=(S.lt HT8.out.ed g f).2
         omega⟩
        have HB9:Hid (w0.heap.size≤w8.heap.size):=HT8.out.ab.chg.size
        clear he9 hx9 hf9 c9 m9 HT8
        go_wp2_with fail
        refine(S.cut w0.heap.size d H0 X w9 HD9.out HA9.out.chg.size HI.out (by have:=HKB.out.2;omega)).mono ?_
        rintro z w10 ⟨vy,H10,rfl,he10,hy10,hh10,c10,m10⟩
        have HA10:Hid (Two Enc w0 w10 a b F9 G8 (Lz14.cutA X) (clearA Y)):=⟨S.keep HA9.out.ea c10 (fun z f h=>HP9.out.1 z f h),S.keep HA9.out.eb c10 (fun z f h=>HP9.out.2 z f h),HA9.out.apt,HA9.out.chg.trans c10 (fun z h=> .inr (S.lt HD9.out z h).1)⟩
        have HX10:Hid (w10.ownsRow w0.heap.size 5 1 vx (k+5) (ins .u8 (nums (Rc.by_ X.c.e)))):=owns_base (ownsRow_keep HX9.out c10 (fun g e=>(HN9.out g e).2.2)) HB9.out
        have HY10:Hid (w10.ownsRow w0.heap.size 5 1 vy (k+5) (ins .u8 (nums (Rc.by_ X.c.e)))):=by have h9:=hy10;rw [HKK.out]at h9;exact owns_base h9 HA9.out.chg.size
        have HN10:Hid (∀g,vy.ownBlock=some g→ ¬F9 g∧ ¬G8 g∧vx.ownBlock≠some g):=fun g e=>⟨fun f=>by
         have k1:=(World.ownsRow.lt hy10 g e).1
         have k2:=(S.lt HA9.out.ea g f).2
         omega,fun f=>by
         have k1:=(World.ownsRow.lt hy10 g e).1
         have k2:=(S.lt HA9.out.eb g f).2
         omega,fun f=>by
         have k1:=(World.ownsRow.lt hy10 g e).1
         have k2:=(World.ownsRow.lt HX9.out g f).2
         omega⟩
        have HNX:Hid (∀g,vx.ownBlock=some g→ ¬F9 g∧ ¬G8 g):=fun g e=>⟨(HN9.out g e).1,(HN9.out g e).2.1⟩
        clear he10 hy10 hh10 c10 m10 HX9 HA9 HD9 HP9 HN9 HB9
        obtain⟨gx,cx,hvx,hcx,_⟩:=own_some HX10.out (by omega)
        obtain⟨gv,cv,hvy,hcy,_⟩:=own_some HY10.out (by omega)
        subst hvx hvy
        obtain⟨sv,hsv⟩: ∃sv,strOfNums (nums (Rc.by_ X.c.e))=sv:=⟨_,rfl⟩
        have HSL:Hid (sv.data.size=k+5):=by
         show _=_
         rw [←hsv]
         have h9:=own_len8 HX10.out
         simp [strOfNums,nums,h9]
        have hcvx:=conv_own HX10.out
        rw [hsv]at hcvx
        go_wp2_with fail
        clear hcvx
        refine(S.cut w0.heap.size b G8 (clearA Y) w10 HA10.out.eb HA10.out.chg.size HIC.out HKY.out).mono ?_
        rintro z w11 ⟨vz,G11,rfl,he11,hz11,hg11,c11,m11⟩
        have hz12:w11.ownsRow w10.heap.size 5 1 vz (yk+5) (ins .u8 (nums (Rc.by_ Y.c.e))):=by rw [←hyk];exact hz11
        obtain⟨gz,cz,hvz,hcz,_⟩:=own_some hz12 (by omega)
        subst hvz
        have HCU:Hid (Cu Enc w0 w11 a F9 (Lz14.cutA X) (.slice (some ⟨gx,0,none⟩) (k+5) cx) (.slice (some ⟨gv,0,none⟩) (k+5) cv) (.slice (some ⟨gz,0,none⟩) (yk+5) cz) (k+5) (k+5) (yk+5) (Rc.by_ X.c.e) (Rc.by_ X.c.e) (Rc.by_ Y.c.e)):=⟨S.keep HA10.out.ea c11 (fun z f h=>HA10.out.apt z f h),ownsRow_keep HX10.out c11 (fun g e=>(HNX.out g e).2),ownsRow_keep HY10.out c11 (fun g e=>(HN10.out g e).2.1),owns_base hz12 HA10.out.chg.size,fun g e=>(HNX.out g e).1,fun g e=>(HN10.out g e).1,fun g e f=>by
         have k1:=(World.ownsRow.lt hz12 g e).1
         have k2:=(S.lt HA10.out.ea g f).2
         omega,fun g e f=>(HN10.out g f).2.2 e,fun g e f=>by
         have k1:=(World.ownsRow.lt hz12 g f).1
         have k2:=(World.ownsRow.lt HX10.out g e).2
         omega,fun g e f=>by
         have k1:=(World.ownsRow.lt hz12 g f).1
         have k2:=(World.ownsRow.lt HY10.out g e).2
         omega,HA10.out.chg.trans c11 (fun z h=> .inr (S.lt HA10.out.eb z h).1)⟩
        have hcx1:=conv_own HCU.out.ox
        have hcy1:=conv_own HCU.out.oy
        rw [hsv]at hcx1 hcy1
        have hykb:(yk:Int)+5≤140737488355328:=by have:=HKY.out;omega
        clear he11 hz11 hz12 hg11 c11 m11 HX10 HY10 HA10 HN10 HNX
        have q1:(((k:Int)+5) !=(k:Int)+5)=false:=by simp
        have q5:decide ((yk:Int)+5<5)=false:=by simp;omega
        go_wp2_with fail
        refine(HSZ.out a 0 w11 F9 (Lz14.cutA X) rfl (by omega) HCU.out.ea).mono ?_
        rintro z w12 ⟨rfl,c12⟩
        have HCV:Hid _:=HCU.out.new S c12
        obtain⟨zv,hzv⟩: ∃zv,strOfNums (nums (Rc.by_ Y.c.e))=zv:=⟨_,rfl⟩
        have hcz1:=conv_own HCV.out.oz
        rw [hzv]at hcz1
        clear c12 HCU hcx1 hcy1
        go_wp2_with fail
        clear hcz1
        have hsl1:sv.data.size=k+5:=HSL.out
        have hsl2:sv.size=k+5:=HSL.out
        have HLX:Hid ((Rc.by_ X.c.e).length=k+5):=own_len8 HCV.out.ox
        generalize Rc.by_ X.c.e=bx at*
        generalize Rc.by_ Y.c.e=bz at*
        go_loopw [205] (fun v1 wq=> ∃(j:Nat) (xs ys:List Nat),j≤k+5∧v1= .int .i64 (j:Int)∧Hid (Cu Enc w0 wq a F9 (Lz14.cutA X) (.slice (some ⟨gx,0,none⟩) (k+5) cx) (.slice (some ⟨gv,0,none⟩) (k+5) cv) (.slice (some ⟨gz,0,none⟩) (yk+5) cz) (k+5) (k+5) (yk+5) xs ys bz∧(∀t,t<j→xs[t]?=some 161)∧(∀t,t<j→ys[t]?=some 162))) (fun v1 _=>k+5-(intOf v1).toNat)
        case atStart=>exact⟨0,bx,bx,by omega,rfl,HCV.out,(fun t h=>by omega),(fun t h=>by omega)⟩
        case round=>
         clear HCV
         obtain⟨j,xs,ys,hj5,rfl,HJ⟩:=hrel
         have hj5i:(j:Int)≤(k:Int)+5:=by omega
         have HLX:Hid (xs.length=k+5):=own_len8 HJ.out.1.ox
         have HLY:Hid (ys.length=k+5):=own_len8 HJ.out.1.oy
         by_cases hlk:j<k+5
         ·have hd2:decide ((j:Int)<(k:Int)+5)=true:=by simp;omega
          have hd2':decide (j<k+5)=true:=decide_eq_true hlk
          obtain⟨x,hx⟩: ∃x,xs[j]?=some x:=⟨xs[j]'(by have:=HLX.out;omega),List.getElem?_eq_getElem _⟩
          obtain⟨y,hy⟩: ∃y,ys[j]?=some y:=⟨ys[j]'(by have:=HLY.out;omega),List.getElem?_eq_getElem _⟩
          obtain⟨a1,b1⟩:=own_at8 HJ.out.1.ox hlk hx
          obtain⟨p1,p2⟩:=own_put8 HJ.out.1.ox j 161
          have h1:=HJ.out.1.setx S p2 p1 (Moved.refl _ _)
          have hab:(wr.setCell ⟨gx,j,none⟩ (.int .u8 161)).cell? ⟨gv,j,none⟩=some (.int .u8 (y:Int))∧(wr.setCell ⟨gx,j,none⟩ (.int .u8 161)).frozen? ⟨gv,j,none⟩=false:=own_at8 h1.oy hlk hy
          obtain⟨a2,b2⟩:=hab
          obtain⟨p3,p4⟩:=own_put8 h1.oy j 162
          have HNJ:Hid (Cu Enc w0 ((wr.setCell ⟨gx,j,none⟩ (.int .u8 161)).setCell ⟨gv,j,none⟩ (.int .u8 162)) a F9 (Lz14.cutA X) (.slice (some ⟨gx,0,none⟩) (k+5) cx) (.slice (some ⟨gv,0,none⟩) (k+5) cv) (.slice (some ⟨gz,0,none⟩) (yk+5) cz) (k+5) (k+5) (yk+5) (xs.set j 161) (ys.set j 162) bz∧(∀t,t<j+1→(xs.set j 161)[t]?=some 161)∧(∀t,t<j+1→(ys.set j 162)[t]?=some 162)):=by
           refine⟨h1.sety S p4 p3 (Moved.refl _ _),fun t ht=> ?_,fun t ht=> ?_⟩
           ·by_cases e:t=j
            ·subst e;rw [List.getElem?_set_self (by have:=HLX.out;omega)]
            ·rw [List.getElem?_set_ne (by omega)];exact HJ.out.2.1 t (by omega)
           ·by_cases e:t=j
            ·subst e;rw [List.getElem?_set_self (by have:=HLY.out;omega)]
            ·rw [List.getElem?_set_ne (by omega)];exact HJ.out.2.2 t (by omega)
          clear HJ hx hy p1 p2 p3 p4 h1 hyk hsv hzv
          go_wp2_with fail
          exact⟨⟨j+1,xs.set j 161,ys.set j 162,by omega,by go_num,HNJ.out⟩,by simp [intOf];omega⟩
         ·have hd2:decide ((j:Int)<(k:Int)+5)=false:=by simp;omega
          have hd2':decide (j<k+5)=false:=decide_eq_false hlk
          have HXA:Hid (∀t,t<k+5→xs[t]?=some 161):=fun t ht=>HJ.out.2.1 t (by omega)
          have HYA:Hid (∀t,t<k+5→ys[t]?=some 162):=fun t ht=>HJ.out.2.2 t (by omega)
          have cA:=chg_one wr (.cells #[.int .u8 177] 5)
          have HC1:Hid (Cu Enc w0 (wr.alloc (.cells #[.int .u8 177] 5)) a F9 (Lz14.cutA X) (.slice (some ⟨gx,0,none⟩) (k+5) cx) (.slice (some ⟨gv,0,none⟩) (k+5) cv) (.slice (some ⟨gz,0,none⟩) (yk+5) cz) (k+5) (k+5) (yk+5) xs ys bz):=HJ.out.1.new S cA
          have hown:=HC1.out.ox
          have hsrc:=(Bk.row8_one wr 177 5).src
          have hone:=one8 [177]
          have hB8:w0.heap.size≤(wr.alloc (.cells #[.int .u8 177] 5)).heap.size:=HC1.out.chg.size
          have hkl:=HKL.out
          clear HJ cA
          go_wp2_with (at_builtin;refine wpList_append_moved rfl _ _ 38 rfl w0.heap.size 5 iu (.int .u8 0) 1 1 Tryz.underlying38 hiu hu0 hu1 hu2 rfl (by decide) _ (k+5) (ins .u8 (nums xs)) rfl (some ⟨wr.heap.size,0,none⟩) 1 1 rfl ((nums [177]).map (Value.int .u8)) hown hsrc hone (by unfold maxLen;omega) (by omega) hB8 ?_)
          intro v9 w12 ho9 hg9 hm9
          have HC2:Hid (Cu Enc w0 w12 a F9 (Lz14.cutA X) v9 (.slice (some ⟨gv,0,none⟩) (k+5) cv) (.slice (some ⟨gz,0,none⟩) (yk+5) cz) (k+5+1) (k+5) (yk+5) (xs++[177]) ys bz):=HC1.out.setx S ((Chg.refl _ _).grown hg9 (fun z e=> .inl e)) (own_app ho9) hm9
          obtain⟨gx2,cx2,hv9,hcx2,_⟩:=own_some HC2.out.ox (by omega)
          subst hv9
          clear ho9 hg9 hm9 hown hsrc hB8 HC1
          have cB:=chg_one w12 (.cells #[.int .u8 178] 5)
          have HC3:Hid _:=HC2.out.new S cB
          have hown:=HC3.out.oy
          have hsrc:=(Bk.row8_one w12 178 5).src
          have hone2:=one8 [178]
          have hB8:w0.heap.size≤(w12.alloc (.cells #[.int .u8 178] 5)).heap.size:=HC3.out.chg.size
          clear cB hone HC2
          go_wp2_with (at_builtin;refine wpList_append_moved rfl _ _ 38 rfl w0.heap.size 5 iu (.int .u8 0) 1 1 Tryz.underlying38 hiu hu0 hu1 hu2 rfl (by decide) _ (k+5) (ins .u8 (nums ys)) rfl (some ⟨w12.heap.size,0,none⟩) 1 1 rfl ((nums [178]).map (Value.int .u8)) hown hsrc hone2 (by unfold maxLen;omega) (by omega) hB8 ?_)
          intro v8 w13 ho8 hg8 hm8
          have HC4:Hid (Cu Enc w0 w13 a F9 (Lz14.cutA X) (.slice (some ⟨gx2,0,none⟩) (k+5+1) cx2) v8 (.slice (some ⟨gz,0,none⟩) (yk+5) cz) (k+5+1) (k+5+1) (yk+5) (xs++[177]) (ys++[178]) bz):=HC3.out.sety S ((Chg.refl _ _).grown hg8 (fun z e=> .inl e)) (own_app ho8) hm8
          obtain⟨gv2,cv2,hv8,hcv2,_⟩:=own_some HC4.out.oy (by omega)
          subst hv8
          clear ho8 hg8 hm8 hown hsrc hB8 HC3 hone2
          have HXB:Hid (∀t,t<k+5→(xs++[177])[t]?=some 161):=fun t ht=>by rw [List.getElem?_append_left (by have:=HLX.out;omega)];exact HXA.out t ht
          have HYB2:Hid (∀t,t<k+5→(ys++[178])[t]?=some 162):=fun t ht=>by rw [List.getElem?_append_left (by have:=HLY.out;omega)];exact HYA.out t ht
          have HXE:Hid ((xs++[177])[k+5]?=some 177∧(ys++[178])[k+5]?=some 178):=⟨by rw [List.getElem?_append_right (by have:=HLX.out;omega),HLX.out];simp,by rw [List.getElem?_append_right (by have:=HLY.out;omega),HLY.out];simp⟩
          clear HXA HYA
          generalize xs++[177]=xs2 at*
          generalize ys++[178]=ys2 at*
          go_wp2_with fail
          go_loopw [27] (fun v1 wq=> ∃(j:Nat),j≤k+5∧v1= .int .i64 (j:Int)∧Hid (Cu Enc w0 wq a F9 (Lz14.cutA X) (.slice (some ⟨gx2,0,none⟩) (k+5+1) cx2) (.slice (some ⟨gv2,0,none⟩) (k+5+1) cv2) (.slice (some ⟨gz,0,none⟩) (yk+5) cz) (k+5+1) (k+5+1) (yk+5) xs2 ys2 bz)) (fun v1 _=>k+5-(intOf v1).toNat)
          case atStart=>exact⟨0,by omega,rfl,HC4.out⟩
          case round=>
           clear HC4
           obtain⟨j,hj6,rfl,HJ⟩:=hrel
           have hj6i:(j:Int)≤(k:Int)+5:=by omega
           by_cases hl6:j<k+5
           ·have hd3:decide ((j:Int)<(k:Int)+5)=true:=by simp;omega
            have hd3':decide (j<k+5)=true:=decide_eq_true hl6
            obtain⟨a1,b1⟩:=own_at8 HJ.out.ox (by omega) (HXB.out j hl6)
            obtain⟨a2,b2⟩:=own_at8 HJ.out.oy (by omega) (HYB2.out j hl6)
            go_wp2_with fail
            exact⟨⟨j+1,by omega,by go_num,HJ.out⟩,by simp [intOf];omega⟩
           ·have hd3:decide ((j:Int)<(k:Int)+5)=false:=by simp;omega
            have hd3':decide (j<k+5)=false:=decide_eq_false hl6
            obtain⟨a1,b1⟩:=own_at8 HJ.out.ox (by omega) HXE.out.1
            obtain⟨a2,b2⟩:=own_at8 HJ.out.oy (by omega) HXE.out.2
            have hcz2:=conv_own HJ.out.oz
            rw [hzv]at hcz2
            go_wp2_with fail
            clear hcz2 a1 b1 a2 b2
            refine(S.cut w0.heap.size a F9 (Lz14.cutA X) wr HJ.out.ea HJ.out.chg.size (cut_I HI.out) (by show 0+5≤140737488355328;omega)).mono ?_
            rintro z w15 ⟨ov,F15,rfl,he15,ho15,ha15,c15,m15⟩
            have HK15:Hid (Chg (fun _=>False) w0 w15):=HJ.out.chg.trans c15 (fun z h=> .inr (S.lt HJ.out.ea z h).1)
            have ho:w15.ownsRow wr.heap.size 5 1 ov 5 (ins .u8 (nums [0,0,0,0,0])):=by rw [←by_start];exact ho15
            obtain⟨oa,oc,hov⟩:=form1 ho
            subst hov
            have hcv:=conv_own ho
            rw [zeros_str]at hcv
            clear ho15 ho he15 ha15 c15 m15 HJ
            go_wp2_with fail
            refine(known_any S w0.heap.size w15 (S.tn HT.out HK15.out) HK15.out.size).mono ?_
            rintro z w16 ⟨rfl,c16⟩
            have HK16:Hid (Chg (fun _=>False) w0 w16):=chg_then HK15.out c16
            clear c16 HK15 hcv
            go_wp2
            go_ret
            exact⟨rfl,HK16.out⟩
end Go.Proofs.YthideplpcnhncaaGreatDoor
