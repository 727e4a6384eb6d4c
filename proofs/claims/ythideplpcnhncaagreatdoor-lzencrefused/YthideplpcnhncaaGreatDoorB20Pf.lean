/- Of no statement by itself: Pf, Jh (without blanks and remarks). -/
import Derived.Test.YthideplpcnhncaaGreatDoorB19Sj
import Derived.Test.YthideplpcnhncaaGreatDoorJg
import Derived.Test.YthideplpcnhncaaGreatDoorB7EnG
import Derived.Test.YthideplpcnhncaaGreatDoorB15Xf
import Derived.Test.YthideplpcnhncaaGreatDoorB13Vj
namespace Go.Proofs.YthideplpcnhncaaGreatDoor
open Go.RowKit
set_option linter.unusedVariables false
set_option maxHeartbeats 4000000 in
set_option maxRecDepth 100000 in
theorem pputb_any (B B' a s:Nat)(v us:Value)(e:Rc.E)(xs:List Int)(p n x:Int)(w0:World)(h:Enc w0 B a v e)(hO:Rc.Ok e)(hk:e.k+17≤140737488355328)(hB:B≤w0.heap.size)(hS:St w0 B' s us xs)(hI:In31 xs)(hlen:xs.length≤1048576)(hp:I64 p)(hn:I64 n)(hx:I64 x):Calls Tryz.prog 208 #[.pointer (some ⟨a,0,none⟩),.pointer (some ⟨s,0,none⟩),.int .i64 p,.int .i64 n,.int .i64 x] w0 fun z w'=>
  (¬Fits xs.length p n x∧z= .returned (.int .i64 7)∧Chg (fun _=>False) w0 w')
  ∨(Fits xs.length p n x∧z= .returned (.int .i64 0)∧ ∃v',Enc w' B a v' (encL (numQ true p n x) e xs).1∧St w' B' s us (encL (numQ true p n x) e xs).2∧Chg (Fp a v us) w0 w'∧Moved w0 v v'):=by
 have HFIT:Hid _:=pfits_any B' s p n x us xs _ hS hlen hp hn hx
 by_cases hf:Fits xs.length p n x
 rotate_left
 ·rw [decide_eq_false hf]at HFIT
  have HF:Hid (¬Fits xs.length p n x):=hf
  clear hf h hO hk hB hS hI
  go_enter Tryz.func208,Tryz.ntmps208
  go_wp2_with fail
  refine Calls.mono HFIT.out ?_
  rintro z w1 ⟨rfl,c1⟩
  have HC:Hid (Chg (fun _=>False) w0 w1):=c1
  clear c1 HFIT
  go_wp2
  go_ret
  exact .inl ⟨HF.out,rfl,HC.out⟩
 rw [decide_eq_true hf]at HFIT
 have HF:Hid (Fits xs.length p n x):=hf
 obtain⟨f1,f2,f3⟩:=fits_bits hf
 obtain⟨P,hP⟩: ∃P:Nat,(P:Int)=p:=⟨p.toNat,by have:=hf.1.2.2.1;omega⟩
 obtain⟨N,hN⟩: ∃N:Nat,(N:Int)=n:=⟨n.toNat,by have:=hf.1.1;omega⟩
 obtain⟨X,hX⟩: ∃X:Nat,(X:Int)=x:=⟨x.toNat,by have:=hf.2.1;omega⟩
 subst hP hN hX
 simp only [Int.toNat_natCast]at f1 f2 f3
 obtain⟨Z,hZ⟩: ∃Z,Z=turnedN N X:=⟨_,rfl⟩
 have hZlt:Z<2^N:=by rw [hZ];exact turned_lt N X
 have hZ16:Z<65536:=Nat.lt_of_lt_of_le hZlt (pow16 f2)
 have hFZ:Fits xs.length (P:Int) (N:Int) (Z:Int):=⟨hf.1,by omega,by
  rw [Int.toNat_natCast,show(2:Int)^N=((2^N:Nat):Int) by simp]
  omega⟩
 have hq:numQ false (P:Int) (N:Int) (Z:Int)=numQ true (P:Int) (N:Int) (X:Int):=by
  unfold numQ
  simp only [Int.toNat_natCast]
  rw [hZ,turned_bits]
 have HT:Hid (∀w,Calls Tryz.prog 213 #[.int .i64 (N:Int),.int .i64 (X:Int)] w fun e w'=>e= .returned (.int .i64 (Z:Int))∧Chg (fun _=>False) w w'):=pturned_any N X Z f2 f3 hZ
 have HPUT:Hid (∀w,Chg (fun _=>False) w0 w→Calls Tryz.prog 211 #[.pointer (some ⟨a,0,none⟩),.pointer (some ⟨s,0,none⟩),.int .i64 (P:Int),.int .i64 (N:Int),.int .i64 (Z:Int)] w fun z w'=>z= .returned (.int .i64 0)∧ ∃v',Enc w' B a v' (encL (numQ true (P:Int) (N:Int) (X:Int)) e xs).1∧St w' B' s us (encL (numQ true (P:Int) (N:Int) (X:Int)) e xs).2∧Chg (Fp a v us) w0 w'∧Moved w0 v v'):=fun w c=>by
  refine(pput_any B B' a s v us e xs P N Z w (h.new c) hO hk (Nat.le_trans hB c.size) (hS.new c) hI hlen hp hn (show I64 _ from⟨by omega,by omega⟩)).mono ?_
  rintro z w' (⟨hh,_⟩|⟨_,h1,v',h2,h3,h4,h5⟩)
  ·exact absurd hFZ hh
  ·rw [hq]at h2 h3
   exact⟨h1,v',h2,h3,(c.mono (fun _ f=>f.elim)).trans h4 (fun _ f=> .inl f),moved_from c.size h5⟩
 clear hf h hO hk hB hS hI f1 f2 f3 hFZ hq hZ hZlt
 go_enter Tryz.func208,Tryz.ntmps208
 go_wp2_with fail
 refine Calls.mono HFIT.out ?_
 rintro z w1 ⟨rfl,c1⟩
 have HC1:Hid (Chg (fun _=>False) w0 w1):=c1
 clear c1 HFIT
 go_wp2_with fail
 refine(HT.out _).mono ?_
 rintro z w2 ⟨rfl,c2⟩
 have HC2:Hid (Chg (fun _=>False) w0 w2):=chg_then HC1.out c2
 clear c2 HC1
 go_wp2_with fail
 refine(HPUT.out _ HC2.out).mono ?_
 rintro z w3 ⟨rfl,h3⟩
 have HR:Hid _:=h3
 clear h3 HPUT HC2
 go_wp2
 go_ret
 exact .inr ⟨HF.out,rfl,HR.out⟩
set_option maxHeartbeats 4000000 in
set_option maxRecDepth 100000 in
theorem pcostb_any (B' s:Nat)(us:Value)(xs:List Int)(p n x:Int)(w0:World)(hS:St w0 B' s us xs)(hI:In31 xs)(hlen:xs.length≤1048576)(hp:I64 p)(hn:I64 n)(hx:I64 x):Calls Tryz.prog 227 #[.pointer (some ⟨s,0,none⟩),.int .i64 p,.int .i64 n,.int .i64 x] w0 fun z w'=>
  (¬Fits xs.length p n x∧z= .returned (.tuple #[.int .i64 0,.int .i64 7])∧Chg (fun _=>False) w0 w')
  ∨(Fits xs.length p n x∧z= .returned (.tuple #[.int .i64 (costW xs p.toNat 1 (bitsOf true n.toNat x.toNat)),.int .i64 0])∧Chg (fun _=>False) w0 w'):=by
 have HFIT:Hid _:=pfits_any B' s p n x us xs _ hS hlen hp hn hx
 by_cases hf:Fits xs.length p n x
 rotate_left
 ·rw [decide_eq_false hf]at HFIT
  have HF:Hid (¬Fits xs.length p n x):=hf
  clear hf hS hI
  go_enter Tryz.func227,Tryz.ntmps227
  go_wp2_with fail
  refine Calls.mono HFIT.out ?_
  rintro z w1 ⟨rfl,c1⟩
  have HC:Hid (Chg (fun _=>False) w0 w1):=c1
  clear c1 HFIT
  go_wp2
  go_ret2
  exact .inl ⟨HF.out,rfl,HC.out⟩
 rw [decide_eq_true hf]at HFIT
 have HF:Hid (Fits xs.length p n x):=hf
 obtain⟨f1,f2,f3⟩:=fits_bits hf
 obtain⟨P,hP⟩: ∃P:Nat,(P:Int)=p:=⟨p.toNat,by have:=hf.1.2.2.1;omega⟩
 obtain⟨N,hN⟩: ∃N:Nat,(N:Int)=n:=⟨n.toNat,by have:=hf.1.1;omega⟩
 obtain⟨X,hX⟩: ∃X:Nat,(X:Int)=x:=⟨x.toNat,by have:=hf.2.1;omega⟩
 subst hP hN hX
 simp only [Int.toNat_natCast]at f1 f2 f3⊢
 obtain⟨Z,hZ⟩: ∃Z,Z=turnedN N X:=⟨_,rfl⟩
 have hZlt:Z<2^N:=by rw [hZ];exact turned_lt N X
 have hZ16:Z<65536:=Nat.lt_of_lt_of_le hZlt (pow16 f2)
 have hFZ:Fits xs.length (P:Int) (N:Int) (Z:Int):=⟨hf.1,by omega,by
  rw [Int.toNat_natCast,show(2:Int)^N=((2^N:Nat):Int) by simp]
  omega⟩
 obtain⟨cc,hcc⟩: ∃cc,cc=costW xs P 1 (bitsOf true N X):=⟨_,rfl⟩
 have HCC:Hid (cc=costW xs P 1 (bitsOf true N X)):=hcc
 have HT:Hid (∀w,Calls Tryz.prog 213 #[.int .i64 (N:Int),.int .i64 (X:Int)] w fun e w'=>e= .returned (.int .i64 (Z:Int))∧Chg (fun _=>False) w w'):=pturned_any N X Z f2 f3 hZ
 have HCO:Hid (∀w,Chg (fun _=>False) w0 w→Calls Tryz.prog 229 #[.pointer (some ⟨s,0,none⟩),.int .i64 (P:Int),.int .i64 (N:Int),.int .i64 (Z:Int)] w fun z w'=>z= .returned (.tuple #[.int .i64 cc,.int .i64 0])∧Chg (fun _=>False) w0 w'):=fun w c=>by
  refine(pcost_any B' s us xs P N Z w (hS.new c) hI hlen hp hn (show I64 _ from⟨by omega,by omega⟩)).mono ?_
  rintro z w' (⟨hh,_⟩|⟨_,h1,h2⟩)
  ·exact absurd hFZ hh
  ·simp only [Int.toNat_natCast]at h1
   rw [hZ,turned_bits,←hcc]at h1
   exact⟨h1,chg_then c h2⟩
 clear hf hS hI f1 f2 f3 hFZ hZ hZlt hcc
 go_enter Tryz.func227,Tryz.ntmps227
 go_wp2_with fail
 refine Calls.mono HFIT.out ?_
 rintro z w1 ⟨rfl,c1⟩
 have HC1:Hid (Chg (fun _=>False) w0 w1):=c1
 clear c1 HFIT
 go_wp2_with fail
 refine(HT.out _).mono ?_
 rintro z w2 ⟨rfl,c2⟩
 have HC2:Hid (Chg (fun _=>False) w0 w2):=chg_then HC1.out c2
 clear c2 HC1
 go_wp2_with fail
 refine(HCO.out _ HC2.out).mono ?_
 rintro z w3 ⟨rfl,h3⟩
 have HR:Hid (Chg (fun _=>False) w0 w3):=h3
 clear h3 HCO HC2
 go_wp2
 go_ret2
 exact .inr ⟨HF.out,by rw [←HCC.out];rfl,HR.out⟩
theorem tree_put:TreePut where
 put:=fun back B B' a s v us e xs p n x w h hO hk hB hS hI hl hp hn hx=>by
  cases back
  ·exact pput_any B B' a s v us e xs p n x w h hO hk hB hS hI hl hp hn hx
  ·exact pputb_any B B' a s v us e xs p n x w h hO hk hB hS hI hl hp hn hx
 cost:=fun back B' s us xs p n x w hS hI hl hp hn hx=>by
  cases back
  ·exact pcost_any B' s us xs p n x w hS hI hl hp hn hx
  ·exact pcostb_any B' s us xs p n x w hS hI hl hp hn hx
end Go.Proofs.YthideplpcnhncaaGreatDoor
namespace Go.Proofs.YthideplpcnhncaaGreatDoor
open Go.RowKit
open St12 Sy13 Lz14
set_option linter.unusedVariables false
set_option linter.unusedSimpArgs false
def encC (p:Prp)(D:Dir)(V:Lst)(wa:Nat)(s:Stt)(ea:Nat):Array Value:= #[.int .i64 p.lc,.int .i64 p.lp,.int .i64 p.pb,V 0,V 1,ptV (D 2 0),ptV (D 3 0),ptV (D 4 0),ptV (D 5 0),V 6,ptV (D 7 0),V 8,V 9,ptV (D 10 0),ptV (D 11 0),V 12,V 13,ptV (D 14 0),V 15,V 16,ptV (D 17 0),.pointer (some ⟨wa,0,none⟩),.int .i64 s.n,.int .i64 s.a,.int .i64 s.b,.int .i64 s.c,.int .i64 s.d,.pointer (some ⟨ea,0,none⟩)]
structure Le (w:World) (B a:Nat) (D:Dir) (V:Lst) (wa:Nat) (vw:Value) (ea:Nat) (ve:Value) (X:Lz):Prop where
 ha:B≤a
 blk:w.heap[a]?=some (.cells (encC X.p D V wa X.s ea) 95 (0,0))
 pt:Part w B X.p X.c.pr 18 D V
 win:Win w B wa vw X.n X.bs
 enc:Enc w B ea ve X.c.e
 ap: ∀g,ve.ownBlock=some g→vw.ownBlock≠some g
def FE (p:Prp)(D:Dir)(V:Lst)(a wa:Nat)(vw:Value)(ea:Nat)(ve:Value)(z:Nat):Prop:=z=a∨Foot wa vw z∨Foot ea ve z∨(∃t i,t<18∧i<cntS p t∧(z=(D t i).1∨(D t i).2.ownBlock=some z))∨ ∃t,t<18∧isL t=true∧(V t).ownBlock=some z
def LzE (w:World)(B a:Nat)(F:Nat→Prop)(X:Lz):Prop:= ∃D V wa vw ea ve,F=FE X.p D V a wa vw ea ve∧Le w B a D V wa vw ea ve X
def TbE (w:World)(B:Nat):Prop:=Tab w∧0<B
theorem Enc.lt3 {w:World}{B a:Nat}{v:Value}{e:Rc.E}(h:Enc w B a v e):(B≤a∧a<w.heap.size)∧(∃cs,w.heap[a]?=some (.cells cs 141 (0,0)))∧ ∀g,v.ownBlock=some g→(B≤g∧g<w.heap.size)∧ ∃cs,w.heap[g]?=some (.cells cs 5 (0,0)):=by
 obtain⟨l,h1,_⟩:=h
 exact⟨⟨h1.hr,lt_of_blk h1.blk⟩,⟨_,h1.blk⟩,fun g e=>⟨h1.own.lt g e,owns_blk h1.own e⟩⟩
theorem Le.lt {w:World}{B a:Nat}{D:Dir}{V:Lst}{wa:Nat}{vw:Value}{ea:Nat}{ve:Value}{X:Lz}(h:Le w B a D V wa vw ea ve X){z:Nat}(hz:FE X.p D V a wa vw ea ve z):B≤z∧z<w.heap.size:=by
 rcases hz with rfl|hz|hz|⟨t,i,ht,hi,hz⟩|⟨t,ht,hi,hz⟩
 ·exact⟨h.ha,lt_of_blk h.blk⟩
 ·exact winSpec.lt h.win z hz
 ·rcases hz with rfl|hz
  ·exact h.enc.lt3.1
  ·exact(h.enc.lt3.2.2 z hz).1
 ·have hs:=(h.pt.fm t ht).st i hi
  rcases hz with rfl|hz
  ·exact⟨hs.ha,hs.lt2.1⟩
  ·exact hs.lt2.2 z hz
 ·exact(h.pt.ls t ht hi).lt z hz
theorem Enc.keep2 {w w':World}{S:Nat→Prop}{B a:Nat}{v:Value}{e:Rc.E}(h:Enc w B a v e)(hc:Chg S w w')(hS: ∀z,Foot a v z→ ¬S z):Enc w' B a v e:=by
 obtain⟨l,h1,h2⟩:=h
 exact⟨l,h1.keep hc (hS a (.inl rfl)) (fun g e=>hS g (.inr e)),h2⟩
theorem Enc.down {w:World}{B B' a:Nat}{v:Value}{e:Rc.E}(h:Enc w B a v e)(hB:B'≤B):Enc w B' a v e:=by
 obtain⟨l,h1,h2⟩:=h
 exact⟨l,⟨Nat.le_trans hB h1.hr,h1.blk,owns_base h1.own hB⟩,h2⟩
theorem Part.keep {w w':World}{S:Nat→Prop}{B m:Nat}{p:Prp}{pr:Nm→Nat→Int}{D:Dir}{V:Lst}(h:Part w B p pr m D V)(hc:Chg S w w')(h1: ∀t,t<m→ ∀i,i<cntS p t→ ¬S (D t i).1∧ ∀z,(D t i).2.ownBlock=some z→ ¬S z)(h2: ∀t,t<m→isL t=true→ ∀z,(V t).ownBlock=some z→ ¬S z):Part w' B p pr m D V:=⟨fun t ht=>(h.fm t ht).keep hc (fun i hi=>h1 t ht i hi),h.ap,fun t ht hi=>ownsRow_keep (h.ls t ht hi) hc (h2 t ht hi)⟩
theorem Le.keep {w w':World}{S:Nat→Prop}{B a:Nat}{D:Dir}{V:Lst}{wa:Nat}{vw:Value}{ea:Nat}{ve:Value}{X:Lz}(h:Le w B a D V wa vw ea ve X)(hc:Chg S w w')(hS: ∀z,FE X.p D V a wa vw ea ve z→ ¬S z):Le w' B a D V wa vw ea ve X:=
 ⟨h.ha,blk_keep h.blk hc (hS a (.inl rfl)),h.pt.keep hc (fun t ht i hi=>⟨hS _ (.inr (.inr (.inr (.inl ⟨t,i,ht,hi,.inl rfl⟩)))),fun z e=>hS _ (.inr (.inr (.inr (.inl ⟨t,i,ht,hi,.inr e⟩))))⟩) (fun t ht hi z e=>hS _ (.inr (.inr (.inr (.inr ⟨t,ht,hi,e⟩))))),winSpec.keep h.win hc (fun z f=>hS z (.inr (.inl f))),h.enc.keep2 hc (fun z f=>hS z (.inr (.inr (.inl f)))),h.ap⟩
theorem Le.new {w w':World}{B a:Nat}{D:Dir}{V:Lst}{wa:Nat}{vw:Value}{ea:Nat}{ve:Value}{X:Lz}(h:Le w B a D V wa vw ea ve X)(hc:Chg (fun _=>False) w w'):Le w' B a D V wa vw ea ve X:=h.keep hc (fun _ _ f=>f)
theorem Le.down {w:World}{B B' a:Nat}{D:Dir}{V:Lst}{wa:Nat}{vw:Value}{ea:Nat}{ve:Value}{X:Lz}(h:Le w B a D V wa vw ea ve X)(hB:B'≤B):Le w B' a D V wa vw ea ve X:=⟨Nat.le_trans hB h.ha,h.blk,h.pt.down hB,winSpec.down h.win hB,h.enc.down hB,h.ap⟩
theorem Le.off {w:World}{B a:Nat}{D:Dir}{V:Lst}{wa:Nat}{vw:Value}{ea:Nat}{ve:Value}{X:Lz}(h:Le w B a D V wa vw ea ve X){g:Nat}{cs:Array Value}{t:TypeId}(hg:w.heap[g]?=some (.cells cs t (0,0)))(h1:t≠95)(h2:t≠137)(h3:t≠5)(h4:t≠141)(h5:t≠222)(h6:t≠226)(h7:t≠78): ¬FE X.p D V a wa vw ea ve g:=fun hz=>by
 rcases hz with rfl|hz|hz|⟨t,i,ht,hi,hz⟩|⟨t,ht,hi,hz⟩
 ·exact ty_ne hg h.blk h1
 ·rcases hz with rfl|hz
  ·obtain⟨cs',hb⟩:=winSpec.blk h.win
   exact ty_ne hg hb h2
  ·obtain⟨cs',hb⟩:=winSpec.ring h.win g hz
   exact ty_ne hg hb h3
 ·rcases hz with rfl|hz
  ·obtain⟨cs',hb⟩:=h.enc.lt3.2.1
   exact ty_ne hg hb h4
  ·obtain⟨cs',hb⟩:=(h.enc.lt3.2.2 g hz).2
   exact ty_ne hg hb h3
 ·have hs:=(h.pt.fm t ht).st i hi
  rcases hz with rfl|hz
  ·exact ty_ne hg hs.blk h5
  ·obtain⟨cs',hb⟩:=owns_blk hs.own hz
   exact ty_ne hg hb h6
 ·obtain⟨cs',hb⟩:=owns_blk (h.pt.ls t ht hi) hz
  exact ty_ne hg hb h7
theorem Le.cell {w:World}{B a:Nat}{D:Dir}{V:Lst}{wa:Nat}{vw:Value}{ea:Nat}{ve:Value}{X:Lz}(h:Le w B a D V wa vw ea ve X)(i:Nat)(v:Value)(hv:(encC X.p D V wa X.s ea)[i]?=some v):w.cell? ⟨a,i,none⟩=some v:=by rw [cell_of_row _ _ _ _ _ _ h.blk];exact hv
theorem Le.ptr {w:World}{B a:Nat}{D:Dir}{V:Lst}{wa:Nat}{vw:Value}{ea:Nat}{ve:Value}{X:Lz}(h:Le w B a D V wa vw ea ve X)(t:Nat)(ht:t<18)(hl:isL t=true)(i:Nat)(hi:i<cntS X.p t): ∃g c,V t= .slice (some ⟨g,0,none⟩) (cntS X.p t) c∧w.cell? ⟨g,i,none⟩=some (.pointer (some ⟨(D t i).1,0,none⟩)):=by
 obtain⟨g,cap,e,_,_,_,_,_,hcell⟩:=own_some (h.pt.ls t ht hl) (by omega)
 exact⟨g,cap,e,hcell i _ (ptsL_at (D t) hi)⟩
structure PenS (T:TypeId) (rv:Value) (fb ft fk fd:Nat) (B a:Nat) (D:Dir) (V:Lst) (wa:Nat) (vw:Value) (ea:Nat) (X:Lz) (I:List Bt→World→Prop):Prop where
 nb: ∀w,Sem.run Tryz.prog (nilAhead 366 T rv "pith/lzenc.bit") w= .ok (some false) w
 nt: ∀w,Sem.run Tryz.prog (nilAhead 366 T rv "pith/lzenc.tree") w= .ok (some false) w
 nk: ∀w,Sem.run Tryz.prog (nilAhead 366 T rv "pith/lzenc.back") w= .ok (some false) w
 mb: ∀w,Sem.run Tryz.prog (method 366 T rv "pith/lzenc.bit") w= .ok (fb,rv) w
 mt: ∀w,Sem.run Tryz.prog (method 366 T rv "pith/lzenc.tree") w= .ok (ft,rv) w
 mkk: ∀w,Sem.run Tryz.prog (method 366 T rv "pith/lzenc.back") w= .ok (fk,rv) w
 md: ∀w,Sem.run Tryz.prog (method 366 T rv "pith/lzenc.direct") w= .ok (fd,rv) w
 eb: ∀args w,(callFunc fb args).run Tryz.prog w= .ok (.enter fb args) w
 et: ∀args w,(callFunc ft args).run Tryz.prog w= .ok (.enter ft args) w
 ek: ∀args w,(callFunc fk args).run Tryz.prog w= .ok (.enter fk args) w
 ed: ∀args w,(callFunc fd args).run Tryz.prog w= .ok (.enter fd args) w
 le: ∀ {l w},I l w→ ∃ve' c,Le w B a D V wa vw ea ve' ⟨X.p,X.n,X.bs,X.s,c⟩
 tab: ∀ {l w},I l w→Tab w
 new: ∀ {l w w'},I l w→Chg (fun _=>False) w w'→I l w'
 bit: ∀(l:List Bt) (w:World) (t i j b:Nat),I l w→t<18→i<cntS X.p t→j<lnS X.p t→b≤1→l.length+1≤87→Calls Tryz.prog fb #[rv,.pointer (some ⟨(D t i).1,0,none⟩),.int .i64 (j:Int),.int .i64 (b:Int)] w fun e w'=>e= .returned (.tuple #[])∧I (l++[⟨some (unS t i j).1,(unS t i j).2,b⟩]) w'
 tree: ∀(l:List Bt) (w:World) (t i n v:Nat),I l w→Lz14.lone t→i<cntS X.p t→n≤8→2^n≤lnS X.p t→v<2^n→l.length+n≤87→Calls Tryz.prog ft #[rv,.pointer (some ⟨(D t i).1,0,none⟩),.int .i64 (n:Int),.int .i64 (v:Int)] w fun e w'=>e= .returned (.tuple #[])∧I (l++treeB (unS t i 0).1 n v) w'
 back: ∀(l:List Bt) (w:World) (t i n v:Nat),I l w→Lz14.lone t→i<cntS X.p t→n≤8→2^n≤lnS X.p t→v<2^n→l.length+n≤87→Calls Tryz.prog fk #[rv,.pointer (some ⟨(D t i).1,0,none⟩),.int .i64 (n:Int),.int .i64 (v:Int)] w fun e w'=>e= .returned (.tuple #[])∧I (l++wayB (unS t i 0).1 n v) w'
 direct: ∀(l:List Bt) (w:World) (x n:Nat),I l w→x≤4294967295→n≤26→l.length+n≤87→Calls Tryz.prog fd #[rv,.int .i64 (x:Int),.int .i64 (n:Int)] w fun e w'=>e= .returned (.tuple #[])∧I (l++rawB x n) w'
end Go.Proofs.YthideplpcnhncaaGreatDoor
