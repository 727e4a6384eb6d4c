/- Of no statement by itself: Lf (without blanks and remarks). -/
import Derived.Test.YthideplpcnhncaaGreatDoorB32Jy
import Derived.Test.YthideplpcnhncaaGreatDoorB16Jd
namespace Go.Proofs.YthideplpcnhncaaGreatDoor
open Go.RowKit
open St12 Sy13 Lz14
set_option linter.unusedVariables false
set_option linter.unusedSimpArgs false
variable {Enc:EncT} {Tb:World→Nat→Prop}
structure Two (Enc:EncT) (w0 w:World) (a b:Nat) (F G:Nat→Prop) (X Y:Lz):Prop where
 ea:Enc w w0.heap.size a F X
 eb:Enc w w0.heap.size b G Y
 apt:Apt F G
 chg:Chg (fun _=>False) w0 w
theorem Two.new {w0 w w':World}{a b:Nat}{F G:Nat→Prop}{X Y:Lz}(S:LzSpec Enc Tb)(h:Two Enc w0 w a b F G X Y)(hc:Chg (fun _=>False) w w'):Two Enc w0 w' a b F G X Y:=⟨S.new h.ea hc,S.new h.eb hc,h.apt,chg_then h.chg hc⟩
theorem Two.swap {w0 w:World}{a b:Nat}{F G:Nat→Prop}{X Y:Lz}(h:Two Enc w0 w a b F G X Y):Two Enc w0 w b a G F Y X:=⟨h.eb,h.ea,h.apt.symm,h.chg⟩
theorem Two.left {w0 w w':World}{a b:Nat}{F G F':Nat→Prop}{X Y X':Lz}(S:LzSpec Enc Tb)(h:Two Enc w0 w a b F G X Y)(he:Enc w' w0.heap.size a F' X')(hc:Chg F w w')(hm:Mvd w F F'):Two Enc w0 w' a b F' G X' Y:=⟨he,S.keep h.eb hc (fun z g f=>h.apt z f g),h.apt.move hm (fun z k=>(S.lt h.eb z k).2),h.chg.trans hc (fun z k=> .inr (S.lt h.ea z k).1)⟩
theorem Two.right {w0 w w':World}{a b:Nat}{F G G':Nat→Prop}{X Y Y':Lz}(S:LzSpec Enc Tb)(h:Two Enc w0 w a b F G X Y)(he:Enc w' w0.heap.size b G' Y')(hc:Chg G w w')(hm:Mvd w G G'):Two Enc w0 w' a b F G' X Y':=(h.swap.left S he hc hm).swap
theorem Two.tb {w0 w:World}{a b:Nat}{F G:Nat→Prop}{X Y:Lz}(S:LzSpec Enc Tb)(h:Two Enc w0 w a b F G X Y)(hT:Tb w0 w0.heap.size):Tb w w0.heap.size:=S.tn hT h.chg
def Ow (w:World)(v:Value)(X:Lz):Prop:= ∃bb,w.ownsRow bb 5 1 v (X.c.e.k+5) (ins .u8 (nums (Rc.by_ X.c.e)))
theorem Ow.keep {w w':World}{v:Value}{X:Lz}{S:Nat→Prop}(h:Ow w v X)(hc:Chg S w w')(hn: ∀g,v.ownBlock=some g→ ¬S g):Ow w' v X:=by
 obtain⟨bb,k⟩:=h
 exact⟨bb,ownsRow_keep k hc hn⟩
structure RfJ (Enc:EncT) (w0:World) (a b gy:Nat) (X X1:Lz) (q:Nat) (o1 o2:Value) (w:World):Prop where
 chg:Chg (fun _=>False) w0 w
 yb:w.heap[gy]?=some (.cells #[.int .i64 1,.int .u8 7,.int .i64 0,.int .i64 0] 34 (0,0))
 st:(q<1∧ ∃F G,Two Enc w0 w a b F G X X∧ ¬F gy∧ ¬G gy)∨(1≤q∧q<5∧ ∃F G,Two Enc w0 w a b F G X1 X∧ ¬F gy∧ ¬G gy)∨(5≤q∧q<10∧ ∃F G,Two Enc w0 w a b F G X1 X1∧ ¬F gy∧ ¬G gy)∨(q=10∧Ow w o1 X1∧ ∃F G,Two Enc w0 w a b F G (Lz14.cutA X1) X1∧ ¬F gy∧ ¬G gy∧ ∀g,o1.ownBlock=some g→ ¬G g)∨(11≤q∧Ow w o1 X1∧Ow w o2 X1)
theorem mvd_ne {w:World}{F F':Nat→Prop}{gy:Nat}(hm:Mvd w F F')(h: ¬F gy)(hg:gy<w.heap.size): ¬F' gy:=fun k=>by
 rcases hm gy k with k|k
 ·exact h k
 ·omega
theorem RfJ.same {w0 w:World}{a b gy:Nat}{X X1:Lz}{q:Nat}{o1 o2:Value}(h:RfJ Enc w0 a b gy X X1 q o1 o2 w)(hq:q≠0∧q≠4∧q≠9∧q≠10):RfJ Enc w0 a b gy X X1 (q+1) o1 o2 w:=by
 refine⟨h.chg,h.yb,?_⟩
 rcases h.st with⟨k,_⟩|⟨k,k2,r⟩|⟨k,k2,r⟩|⟨k,_⟩|⟨k,r⟩
 ·omega
 ·exact .inr (.inl ⟨by omega,by omega,r⟩)
 ·exact .inr (.inr (.inl ⟨by omega,by omega,r⟩))
 ·omega
 ·exact .inr (.inr (.inr (.inr ⟨by omega,r⟩)))
theorem RfJ.own1 {w0 w:World}{a b gy:Nat}{X X1:Lz}{q:Nat}{o1 o2:Value}(h:RfJ Enc w0 a b gy X X1 q o1 o2 w)(hq:10≤q):Ow w o1 X1:=by
 rcases h.st with⟨k,_⟩|⟨k,k2,r⟩|⟨k,k2,r⟩|⟨k,k2,_⟩|⟨k,k2,_⟩
 ·omega
 ·omega
 ·omega
 ·exact k2
 ·exact k2
theorem RfJ.own2 {w0 w:World}{a b gy:Nat}{X X1:Lz}{q:Nat}{o1 o2:Value}(h:RfJ Enc w0 a b gy X X1 q o1 o2 w)(hq:11≤q):Ow w o2 X1:=by
 rcases h.st with⟨k,_⟩|⟨k,k2,r⟩|⟨k,k2,r⟩|⟨k,k2,_⟩|⟨k,_,k2⟩
 ·omega
 ·omega
 ·omega
 ·omega
 ·exact k2
theorem RfJ.last {w0 w w':World}{a b gy:Nat}{X X1:Lz}{o1 o2:Value}(h:RfJ Enc w0 a b gy X X1 15 o1 o2 w)(hc:Chg (fun _=>False) w w'):RfJ Enc w0 a b gy X X1 16 o1 o2 w':=⟨chg_then h.chg hc,blk_keep h.yb hc (fun f=>f),.inr (.inr (.inr (.inr ⟨by omega,(h.own1 (by omega)).keep hc (fun _ _ f=>f),(h.own2 (by omega)).keep hc (fun _ _ f=>f)⟩)))⟩
theorem Y7_I:(⟨1,7,0,0⟩:Sym).I:=symI' 1 7 0 0 ⟨by decide,by decide⟩ ⟨by decide,by decide⟩ ⟨by decide,by decide⟩ ⟨by decide,by decide⟩
theorem RfJ.put1 {w0 w:World}{a b gy:Nat}{X X1:Lz}{o1 o2:Value}(S:LzSpec Enc Tb)(hT:Tb w0 w0.heap.size)(hI:I X)(hX:putA X ⟨1,7,0,0⟩=X1)(he:errA X ⟨1,7,0,0⟩=0)(hb:X.bs.length+273≤1152921504606846976∧X.c.e.k+104≤140737488355328)(h:RfJ Enc w0 a b gy X X1 0 o1 o2 w):Calls Tryz.prog 11 #[.pointer (some ⟨a,0,none⟩),.agg #[.int .i64 1,.int .u8 7,.int .i64 0,.int .i64 0]] w fun e w'=>e= .returned (.int .i64 0)∧RfJ Enc w0 a b gy X X1 1 o1 o2 w':=by
 rcases h.st with⟨_,F,G,h2,n1,n2⟩|⟨k,_⟩|⟨k,_⟩|⟨k,_⟩|⟨k,_⟩
 ·refine(S.put w0.heap.size a F X ⟨1,7,0,0⟩ w h2.ea (h2.tb S hT) h2.chg.size hI Y7_I hb.1 hb.2).mono ?_
  rintro e w' ⟨rfl,F',h3,c,m⟩
  rw [hX]at h3
  have h4:=h2.left S h3 c m
  exact⟨by rw [he],h4.chg,blk_keep h.yb c n1,.inr (.inl ⟨by omega,by omega,F',G,h4,mvd_ne m n1 (lt_of_blk h.yb),n2⟩)⟩
 all_goals omega
theorem RfJ.put2 {w0 w:World}{a b gy:Nat}{X X1:Lz}{o1 o2:Value}(S:LzSpec Enc Tb)(hT:Tb w0 w0.heap.size)(hI:I X)(hX:putA X ⟨1,7,0,0⟩=X1)(he:errA X ⟨1,7,0,0⟩=0)(hb:X.bs.length+273≤1152921504606846976∧X.c.e.k+104≤140737488355328)(h:RfJ Enc w0 a b gy X X1 4 o1 o2 w):Calls Tryz.prog 11 #[.pointer (some ⟨b,0,none⟩),.agg #[.int .i64 1,.int .u8 7,.int .i64 0,.int .i64 0]] w fun e w'=>e= .returned (.int .i64 0)∧RfJ Enc w0 a b gy X X1 5 o1 o2 w':=by
 rcases h.st with⟨k,_⟩|⟨_,_,F,G,h2,n1,n2⟩|⟨k,_⟩|⟨k,_⟩|⟨k,_⟩
 ·omega
 ·refine(S.put w0.heap.size b G X ⟨1,7,0,0⟩ w h2.eb (h2.tb S hT) h2.chg.size hI Y7_I hb.1 hb.2).mono ?_
  rintro e w' ⟨rfl,G',h3,c,m⟩
  rw [hX]at h3
  have h4:=h2.right S h3 c m
  exact⟨by rw [he],h4.chg,blk_keep h.yb c n2,.inr (.inr (.inl ⟨by omega,by omega,F,G',h4,n1,mvd_ne m n2 (lt_of_blk h.yb)⟩))⟩
 all_goals omega
theorem RfJ.cut1 {w0 w:World}{a b gy:Nat}{X X1:Lz}{o1 o2:Value}(S:LzSpec Enc Tb)(hT:Tb w0 w0.heap.size)(hI:I X1)(hb:X1.c.e.k+5≤140737488355328)(h:RfJ Enc w0 a b gy X X1 9 o1 o2 w):Calls Tryz.prog 13 #[.pointer (some ⟨a,0,none⟩)] w fun e w'=> ∃ov,e= .returned ov∧RfJ Enc w0 a b gy X X1 10 ov o2 w':=by
 rcases h.st with⟨k,_⟩|⟨_,k,_⟩|⟨_,_,F,G,h2,n1,n2⟩|⟨k,_⟩|⟨k,_⟩
 ·omega
 ·omega
 ·refine(S.cut w0.heap.size a F X1 w h2.ea h2.chg.size hI hb).mono ?_
  rintro e w' ⟨ov,F',rfl,h3,ho,ha,c,m⟩
  have h4:=h2.left S h3 c m
  exact⟨ov,rfl,h4.chg,blk_keep h.yb c n1,.inr (.inr (.inr (.inl ⟨rfl,⟨_,ho⟩,F',G,h4,mvd_ne m n1 (lt_of_blk h.yb),n2,fun g e k=>by
   have k1:=(World.ownsRow.lt ho g e).1
   have k2:=(S.lt h2.eb g k).2
   omega⟩)))⟩
 all_goals omega
theorem RfJ.cut2 {w0 w:World}{a b gy:Nat}{X X1:Lz}{o1 o2:Value}(S:LzSpec Enc Tb)(hT:Tb w0 w0.heap.size)(hI:I X1)(hb:X1.c.e.k+5≤140737488355328)(h:RfJ Enc w0 a b gy X X1 10 o1 o2 w):Calls Tryz.prog 13 #[.pointer (some ⟨b,0,none⟩)] w fun e w'=> ∃ov,e= .returned ov∧RfJ Enc w0 a b gy X X1 11 o1 ov w':=by
 rcases h.st with⟨k,_⟩|⟨_,k,_⟩|⟨_,k,_⟩|⟨_,hO,F,G,h2,n1,n2,n3⟩|⟨k,_⟩
 ·omega
 ·omega
 ·omega
 ·refine(S.cut w0.heap.size b G X1 w h2.eb h2.chg.size hI hb).mono ?_
  rintro e w' ⟨ov,G',rfl,h3,ho,ha,c,m⟩
  have h4:=h2.right S h3 c m
  exact⟨ov,rfl,h4.chg,blk_keep h.yb c n2,.inr (.inr (.inr (.inr ⟨Nat.le_refl _,hO.keep c n3,⟨_,ho⟩⟩)))⟩
 ·omega
theorem resetE_no {p:Prp}(h: ¬allow p):resetE p=6:=by unfold resetE;rw [if_neg h]
theorem resetA_no {X:Lz}{p:Prp}(h: ¬allow p):resetA X p=X:=by unfold resetA;rw [if_neg h]
set_option maxHeartbeats 16000000 in
set_option maxRecDepth 100000 in
theorem refused_any (S:LzSpec Enc Tb)(lc lp pb n:Int)(hp:(⟨lc,lp,pb⟩:Prp).I)(hn:I64 n)(ad:Option Addr)(c len:Nat)(l:List Sym)(w0:World)(hT:Tb w0 w0.heap.size)(hL:l.length=len)(hl:SymL w0 ad l)(hle:len≤4398046511104):Calls Tryz.prog 3 #[.agg #[.int .i64 lc,.int .i64 lp,.int .i64 pb,.int .i64 n],.slice ad len c] w0 fun e w'=>e= .returned (.bool true)∧Chg (fun _=>False) w0 w':=by
 have HT:Hid (Tb w0 w0.heap.size):=hT
 have HO:Hid ((w0.alloc (.cells #[.int .i64 lc,.int .i64 lp,.int .i64 pb,.int .i64 n] 25)).heap[w0.heap.size]?=some (.cells #[.int .i64 lc,.int .i64 lp,.int .i64 pb,.int .i64 n] 25 (0,0))):=heap_alloc_last _ _
 have HC0:Hid (Chg (fun _=>False) w0 (w0.alloc (.cells #[.int .i64 lc,.int .i64 lp,.int .i64 pb,.int .i64 n] 25))):=chg_one _ _
 by_cases hin:allow ⟨lc,lp,pb⟩∧1≤n∧n≤4294967295
 rotate_left
 ·obtain⟨er,her,hN⟩: ∃er:Int,er≠0∧ ∀w,Tb w w0.heap.size→w0.heap.size≤w.heap.size→Calls Tryz.prog 7 #[.agg #[.int .i64 lc,.int .i64 lp,.int .i64 pb],.int .i64 n] w fun e w'=>e= .returned (.tuple #[.pointer none,.int .i64 er])∧Chg (fun _=>False) w w':=by
   by_cases ha:allow ⟨lc,lp,pb⟩
   ·exact⟨7,by decide,fun w h1 h2=>S.newN w0.heap.size ⟨lc,lp,pb⟩ n w h1 h2 hp hn ha (by have: ¬(1≤n∧n≤4294967295):=fun e=>hin ⟨ha,e⟩;omega)⟩
   ·exact⟨6,by decide,fun w h1 h2=>S.newP w0.heap.size ⟨lc,lp,pb⟩ n w h1 h2 hp hn ha⟩
  have HN:Hid _:=hN
  have q1:(er==0)=false:=by rw [beq_eq_false_iff_ne];exact her
  have q2:(er !=0)=true:=by simp [her]
  have q3:decide (er=0)=false:=decide_eq_false her
  have q4:(er==er)=true:=by simp
  have q5:(er !=er)=false:=by simp
  obtain⟨o0,o1,o2,o3⟩:=cells4y HO.out
  clear hN her hin hl hL hT
  go_enter Tryz.func3,Tryz.ntmps3
  go_wp2_with fail
  refine(HN.out _ (S.tn HT.out HC0.out) HC0.out.size).mono ?_
  rintro z w1 ⟨rfl,c1⟩
  have HC1:Hid (Chg (fun _=>False) w0 w1):=chg_then HC0.out c1
  have HO1:Hid (w1.heap[w0.heap.size]?=some (.cells #[.int .i64 lc,.int .i64 lp,.int .i64 pb,.int .i64 n] 25 (0,0))):=blk_keep HO.out c1 (fun f=>f)
  clear c1 HC0 HO o0 o1 o2 o3
  obtain⟨o0,o1,o2,o3⟩:=cells4y HO1.out
  go_wp2_with fail
  refine(HN.out _ (S.tn HT.out HC1.out) HC1.out.size).mono ?_
  rintro z w2 ⟨rfl,c2⟩
  have HC2:Hid (Chg (fun _=>False) w0 w2):=chg_then HC1.out c2
  clear c2 HC1 HO1 HN o0 o1 o2 o3
  go_wp2_with fail
  refine(num_any er w2).mono ?_
  rintro z w3 ⟨rfl,rfl⟩
  go_wp2_with fail
  refine(num_any er w2).mono ?_
  rintro z w3 ⟨rfl,rfl⟩
  go_wp2_with fail
  refine(num_any er w2).mono ?_
  rintro z w3 ⟨rfl,rfl⟩
  go_wp2_with fail
  refine(num_any er w2).mono ?_
  rintro z w3 ⟨rfl,rfl⟩
  go_wp2_with fail
  refine(num_any er w2).mono ?_
  rintro z w3 ⟨rfl,rfl⟩
  go_wp2_with fail
  refine(num_any er w2).mono ?_
  rintro z w3 ⟨rfl,rfl⟩
  go_wp2_with fail
  refine(known_any S w0.heap.size w2 (S.tn HT.out HC2.out) HC2.out.size).mono ?_
  rintro z w3 ⟨rfl,c3⟩
  have HC3:Hid (Chg (fun _=>False) w0 w3):=chg_then HC2.out c3
  clear c3 HC2
  go_wp2
  go_ret
  exact⟨rfl,HC3.out⟩
 ·obtain⟨ha,hn1,hn2⟩:=hin
  obtain⟨m,rfl⟩: ∃m:Nat,n=(m:Int):=⟨n.toNat,by omega⟩
  have hm1:1≤m:=by omega
  have hm2:m≤4294967295:=by omega
  have HN:Hid (∀w,Tb w w0.heap.size→w0.heap.size≤w.heap.size→Calls Tryz.prog 7 #[.agg #[.int .i64 lc,.int .i64 lp,.int .i64 pb],.int .i64 (m:Int)] w fun e w'=> ∃a F,e= .returned (.tuple #[.pointer (some ⟨a,0,none⟩),.int .i64 0])∧Enc w' w.heap.size a F (newA ⟨lc,lp,pb⟩ m)∧Chg (fun _=>False) w w'):=fun w h1 h2=>S.newIn w0.heap.size ⟨lc,lp,pb⟩ m w h1 h2 hp ha hm1 hm2
  have HI0:Hid (I (newA ⟨lc,lp,pb⟩ m)):=new_I ha hm1 hm2
  have HP0:Hid (Pot Rc.start (newA ⟨lc,lp,pb⟩ m).c.e 0∧(newA ⟨lc,lp,pb⟩ m).bs.length=0):=⟨Pot.refl _,rfl⟩
  have HSL:Hid (SymL w0 ad l):=hl
  have HLN:Hid (l.length=len):=hL
  obtain⟨X0,hX0⟩: ∃X0,newA ⟨lc,lp,pb⟩ m=X0:=⟨_,rfl⟩
  rw [hX0]at HN HI0 HP0
  obtain⟨o0,o1,o2,o3⟩:=cells4y HO.out
  clear hl hL hT ha hn1 hn2 hp hn hX0
  go_enter Tryz.func3,Tryz.ntmps3
  go_wp2_with fail
  refine(HN.out _ (S.tn HT.out HC0.out) HC0.out.size).mono ?_
  rintro z w1 ⟨a,F0,rfl,he1,c1⟩
  have HC1:Hid (Chg (fun _=>False) w0 w1):=chg_then HC0.out c1
  have HO1:Hid (w1.heap[w0.heap.size]?=some (.cells #[.int .i64 lc,.int .i64 lp,.int .i64 pb,.int .i64 (m:Int)] 25 (0,0))):=blk_keep HO.out c1 (fun f=>f)
  have HE1:Hid (Enc w1 w0.heap.size a F0 X0):=S.down he1 HC0.out.size
  clear c1 HC0 HO o0 o1 o2 o3 he1
  obtain⟨o0,o1,o2,o3⟩:=cells4y HO1.out
  go_wp2_with fail
  refine(HN.out _ (S.tn HT.out HC1.out) HC1.out.size).mono ?_
  rintro z w2 ⟨b,G0,rfl,he2,c2⟩
  have HTW0:Hid (Two Enc w0 w2 a b F0 G0 X0 X0):=⟨S.new HE1.out c2,S.down he2 HC1.out.size,fun z f g=>by
   have k1:=(S.lt HE1.out z f).2
   have k2:=(S.lt he2 z g).1
   omega,chg_then HC1.out c2⟩
  have hna:=pLE_ne ⟨a,0,none⟩
  have hnb:=pLE_ne ⟨b,0,none⟩
  clear c2 HC1 HO1 HN o0 o1 o2 o3 he2 HE1
  go_wp2_with fail
  refine(num_any 0 w2).mono ?_
  rintro z w3 ⟨rfl,rfl⟩
  go_wp2_with fail
  refine(num_any 0 w2).mono ?_
  rintro z w3 ⟨rfl,rfl⟩
  go_wp2_with fail
  refine(num_any 0 w2).mono ?_
  rintro z w3 ⟨rfl,rfl⟩
  go_wp2_with fail
  go_loopw [63] (fun v1 wr=> ∃(i:Nat) (F G:Nat→Prop) (X:Lz),i≤len∧v1= .int .i64 (i:Int)∧Hid (Two Enc w0 wr a b F G X X∧I X∧Pot Rc.start X.c.e (206*i)∧X.bs.length≤273*i)) (fun v1 _=>len-(intOf v1).toNat)
  case atStart=>exact⟨0,F0,G0,X0,by omega,rfl,HTW0.out,HI0.out,HP0.out.1,by rw [HP0.out.2];omega⟩
  case round=>
   clear HTW0 HI0 HP0
   obtain⟨i,F,G,X,hi,rfl,HJ⟩:=hrel
   have hii:(i:Int)≤(len:Int):=by omega
   have hle2:(len:Int)≤4398046511104:=by omega
   have HKB:Hid (X.bs.length+273≤1152921504606846976∧X.c.e.k+256≤140737488355328):=by
    have h1:=pot_k HJ.out.2.1.c.ok HJ.out.2.2.1
    have h2:=HJ.out.2.2.2
    exact⟨by omega,by omega⟩
   have HTW:Hid (Two Enc w0 wr a b F G X X):=HJ.out.1
   have HI:Hid (I X):=HJ.out.2.1
   have HPO:Hid (Pot Rc.start X.c.e (206*i)∧X.bs.length≤273*i):=HJ.out.2.2
   clear HJ
   by_cases hlt:i<len
   ·have hd1:decide ((i:Int)<(len:Int))=true:=by simp;omega
    have hd1':decide (i<len)=true:=decide_eq_true hlt
    obtain⟨y,hy⟩: ∃y,l[i]?=some y:=⟨l[i]'(by have:=HLN.out;omega),List.getElem?_eq_getElem _⟩
    obtain⟨hyi,lb,lo,had,k0,k1,k2,k3⟩:=HSL.out.new HTW.out.chg i y hy
    have HYI:Hid y.I:=hyi
    have cY:=chg_one wr (.cells #[.int .i64 y.k,.int .u8 y.y,.int .i64 y.l,.int .i64 y.d] 34)
    have HYB:Hid ((wr.alloc (.cells #[.int .i64 y.k,.int .u8 y.y,.int .i64 y.l,.int .i64 y.d] 34)).heap[wr.heap.size]?=some (.cells #[.int .i64 y.k,.int .u8 y.y,.int .i64 y.l,.int .i64 y.d] 34 (0,0))):=heap_alloc_last _ _
    have HT1:Hid (Two Enc w0 (wr.alloc (.cells #[.int .i64 y.k,.int .u8 y.y,.int .i64 y.l,.int .i64 y.d] 34)) a b F G X X):=HTW.out.new S cY
    have HNF:Hid (¬F wr.heap.size∧ ¬G wr.heap.size):=⟨fun f=>by have:=(S.lt HTW.out.ea _ f).2;omega,fun f=>by have:=(S.lt HTW.out.eb _ f).2;omega⟩
    obtain⟨er,her⟩: ∃er,errA X y=er:=⟨_,rfl⟩
    obtain⟨k,hk⟩: ∃k,X.c.e.k=k:=⟨_,rfl⟩
    have HER:Hid (errA X y=er):=her
    have HKK:Hid (X.c.e.k=k):=hk
    have hkb:(k:Int)≤140737488355328:=by have:=HKB.out.2;omega
    have HSZ:Hid (∀w F Y,Y.c.e.k=k→Enc w w0.heap.size a F Y→Calls Tryz.prog 10 #[.pointer (some ⟨a,0,none⟩)] w fun e w'=>e= .returned (.int .i64 ((k:Int)+5))∧Chg (fun _=>False) w w'):=fun w F Y e h=>by
     have h9:=S.size w0.heap.size a F Y w h (by have:=HKB.out.2;omega)
     rw [e]at h9
     exact h9
    subst had
    clear hy hyi cY her hk HTW
    go_wp2_with fail
    generalize wr.alloc (.cells #[.int .i64 y.k,.int .u8 y.y,.int .i64 y.l,.int .i64 y.d] 34)=W at*
    generalize wr.heap.size=gy at*
    clear k0 k1 k2 k3
    refine(HSZ.out W F X HKK.out HT1.out.ea).mono ?_
    rintro z w5 ⟨rfl,c5⟩
    have HT5:Hid (Two Enc w0 w5 a b F G X X):=HT1.out.new S c5
    have HY5:Hid (w5.heap[gy]?=some (.cells #[.int .i64 y.k,.int .u8 y.y,.int .i64 y.l,.int .i64 y.d] 34 (0,0))):=blk_keep HYB.out c5 (fun f=>f)
    clear c5 HT1 HYB
    obtain⟨y0,y1,y2,y3⟩:=cells4y HY5.out
    go_wp2_with fail
    refine(S.put w0.heap.size a F X y w5 HT5.out.ea (HT5.out.tb S HT.out) HT5.out.chg.size HI.out HYI.out HKB.out.1 (by have:=HKB.out.2;omega)).mono ?_
    rw [HER.out]
    rintro z w6 ⟨rfl,F',he6,c6,m6⟩
    have HT6:Hid (Two Enc w0 w6 a b F' G (putA X y) X):=HT5.out.left S he6 c6 m6
    have HY6:Hid (w6.heap[gy]?=some (.cells #[.int .i64 y.k,.int .u8 y.y,.int .i64 y.l,.int .i64 y.d] 34 (0,0))):=blk_keep HY5.out c6 HNF.out.1
    have HNF6:Hid (¬F' gy∧ ¬G gy):=⟨mvd_ne m6 HNF.out.1 (lt_of_blk HY5.out),HNF.out.2⟩
    clear he6 c6 m6 HT5 HY5 y0 y1 y2 y3 HNF
    go_wp2_with fail
    refine(num_any er w6).mono ?_
    rintro z w7 ⟨rfl,rfl⟩
    by_cases he:er=0
    ·subst he
     obtain⟨y0,y1,y2,y3⟩:=cells4y HY6.out
     have HPI:Hid (I (putA X y)∧Pot Rc.start (putA X y).c.e (206*(i+1))∧(putA X y).bs.length≤273*(i+1)):=by
      refine⟨put_I HI.out HYI.out.y,?_,?_⟩
      ·have h9:=HPO.out.1.trans (by have:=HI.out.c.ok.lo;omega) (put_pot HI.out y)
       rw [show 206*i+206=206*(i+1)from by omega]at h9
       exact h9
      ·have h1:=put_len X y
       have h2:=HPO.out.2
       omega
     go_wp2_with fail
     refine(S.put w0.heap.size b G X y w6 HT6.out.eb (HT6.out.tb S HT.out) HT6.out.chg.size HI.out HYI.out HKB.out.1 (by have:=HKB.out.2;omega)).mono ?_
     rw [HER.out]
     rintro z w8 ⟨rfl,G',he8,c8,m8⟩
     have HT8:Hid (Two Enc w0 w8 a b F' G' (putA X y) (putA X y)):=HT6.out.right S he8 c8 m8
     clear he8 c8 m8 HT6 HY6 HNF6 y0 y1 y2 y3
     go_wp2_with fail
     refine(num_any 0 w8).mono ?_
     rintro z w9 ⟨rfl,rfl⟩
     go_wp2_with fail
     exact⟨⟨i+1,F',G',putA X y,by omega,by go_num,HT8.out,HPI.out⟩,by simp [intOf];omega⟩
    ·have HPX:Hid (putA X y=X):=put_no (by rw [HER.out];exact he)
     have hv:er=6∨er=7:=by
      have h9:=err_vals X y
      rw [HER.out]at h9
      rcases h9 with h9|h9|h9
      ·exact absurd h9 he
      ·exact .inl h9
      ·exact .inr h9
     have hyk:y.k≠1:=fun e=>he (by rw [←HER.out];exact err_lit HI.out e)
     have q8:(y.k==1)=false:=by rw [beq_eq_false_iff_ne];exact hyk
     have q8':decide (y.k=1)=false:=decide_eq_false hyk
     have HT6':Hid (Two Enc w0 w6 a b F' G X X):=by have h9:=HT6.out;rw [HPX.out]at h9;exact h9
     have HPI:Hid (I X∧Pot Rc.start X.c.e (206*(i+1))∧X.bs.length≤273*(i+1)):=by
      refine⟨HI.out,?_,by have:=HPO.out.2;omega⟩
      have h9:=HPO.out.1.trans (by have:=HI.out.c.ok.lo;omega) (put_pot HI.out y)
      rw [show 206*i+206=206*(i+1)from by omega,HPX.out]at h9
      exact h9
     have q9:(((k:Int)+5) !=(k:Int)+5)=false:=by simp
     obtain⟨y0,y1,y2,y3⟩:=cells4y HY6.out
     clear HT6 he hyk
     rcases hv with rfl|rfl
     ·go_wp2_with fail
      refine(HSZ.out w6 F' X HKK.out HT6'.out.ea).mono ?_
      rintro z w8 ⟨rfl,c8⟩
      have HT8:Hid (Two Enc w0 w8 a b F' G X X):=HT6'.out.new S c8
      have HY8:Hid (w8.heap[gy]?=some (.cells #[.int .i64 y.k,.int .u8 y.y,.int .i64 y.l,.int .i64 y.d] 34 (0,0))):=blk_keep HY6.out c8 (fun f=>f)
      clear c8 HT6' HY6 HNF6 y0 y1 y2 y3
      obtain⟨y0,y1,y2,y3⟩:=cells4y HY8.out
      go_wp2_with fail
      exact⟨⟨i+1,F',G,X,by omega,by go_num,HT8.out,HPI.out⟩,by simp [intOf];omega⟩
     ·go_wp2_with fail
      refine(HSZ.out w6 F' X HKK.out HT6'.out.ea).mono ?_
      rintro z w8 ⟨rfl,c8⟩
      have HT8:Hid (Two Enc w0 w8 a b F' G X X):=HT6'.out.new S c8
      have HY8:Hid (w8.heap[gy]?=some (.cells #[.int .i64 y.k,.int .u8 y.y,.int .i64 y.l,.int .i64 y.d] 34 (0,0))):=blk_keep HY6.out c8 (fun f=>f)
      clear c8 HT6' HY6 HNF6 y0 y1 y2 y3
      obtain⟨y0,y1,y2,y3⟩:=cells4y HY8.out
      go_wp2_with fail
      exact⟨⟨i+1,F',G,X,by omega,by go_num,HT8.out,HPI.out⟩,by simp [intOf];omega⟩
   ·have hd1:decide ((i:Int)<(len:Int))=false:=by simp;omega
    have hd1':decide (i<len)=false:=decide_eq_false hlt
    have HR1:Hid (∀w F,Enc w w0.heap.size a F X→Tb w w0.heap.size→w0.heap.size≤w.heap.size→Calls Tryz.prog 12 #[.pointer (some ⟨a,0,none⟩),.agg #[.int .i64 5,.int .i64 0,.int .i64 0]] w fun e w'=>e= .returned (.int .i64 6)∧ ∃F',Enc w' w0.heap.size a F' X∧Chg F w w'∧Mvd w F F'):=fun w F h1 h2 h3=>by
     have h9:=S.reset w0.heap.size a F X ⟨5,0,0⟩ w h1 h2 h3 HI.out ⟨⟨by decide,by decide⟩,⟨by decide,by decide⟩,⟨by decide,by decide⟩⟩
     rw [resetE_no (by decide),resetA_no (by decide)]at h9
     exact h9
    have HR2:Hid (∀w F,Enc w w0.heap.size a F X→Tb w w0.heap.size→w0.heap.size≤w.heap.size→Calls Tryz.prog 12 #[.pointer (some ⟨a,0,none⟩),.agg #[.int .i64 2,.int .i64 3,.int .i64 0]] w fun e w'=>e= .returned (.int .i64 6)∧ ∃F',Enc w' w0.heap.size a F' X∧Chg F w w'∧Mvd w F F'):=fun w F h1 h2 h3=>by
     have h9:=S.reset w0.heap.size a F X ⟨2,3,0⟩ w h1 h2 h3 HI.out ⟨⟨by decide,by decide⟩,⟨by decide,by decide⟩,⟨by decide,by decide⟩⟩
     rw [resetE_no (by decide),resetA_no (by decide)]at h9
     exact h9
    go_wp2_with fail
    refine(HR1.out wr F HTW.out.ea (HTW.out.tb S HT.out) HTW.out.chg.size).mono ?_
    rintro z w5 ⟨rfl,F5,he5,c5,m5⟩
    have HT5:Hid (Two Enc w0 w5 a b F5 G X X):=HTW.out.left S he5 c5 m5
    clear he5 c5 m5 HTW HR1
    go_wp2_with fail
    refine(num_any 6 w5).mono ?_
    rintro z w6 ⟨rfl,rfl⟩
    go_wp2_with fail
    refine(HR2.out w5 F5 HT5.out.ea (HT5.out.tb S HT.out) HT5.out.chg.size).mono ?_
    rintro z w6 ⟨rfl,F6,he6,c6,m6⟩
    have HT6:Hid (Two Enc w0 w6 a b F6 G X X):=HT5.out.left S he6 c6 m6
    clear he6 c6 m6 HT5 HR2
    go_wp2_with fail
    refine(num_any 6 w6).mono ?_
    rintro z w7 ⟨rfl,rfl⟩
    obtain⟨X1,hX1⟩: ∃X1,putA X ⟨1,7,0,0⟩=X1:=⟨_,rfl⟩
    have HPX:Hid (putA X ⟨1,7,0,0⟩=X1):=hX1
    have HE0:Hid (errA X ⟨1,7,0,0⟩=0):=err_lit HI.out rfl
    have HI1:Hid (I X1):=by rw [←hX1];exact put_I HI.out ⟨by decide,by decide⟩
    have HPB:Hid (X.bs.length+273≤1152921504606846976∧X.c.e.k+104≤140737488355328):=⟨HKB.out.1,by have:=HKB.out.2;omega⟩
    have HKB1:Hid (X1.c.e.k+5≤140737488355328):=by
     have h1:=(put_k X ⟨1,7,0,0⟩).2
     rw [hX1]at h1
     have:=HKB.out.2
     show _≤_
     omega
    obtain⟨sv,hsv⟩: ∃sv,strOfNums (nums (Rc.by_ X1.c.e))=sv:=⟨_,rfl⟩
    have HSV:Hid (strOfNums (nums (Rc.by_ X1.c.e))=sv):=hsv
    have cY:=chg_one w6 (.cells #[.int .i64 1,.int .u8 7,.int .i64 0,.int .i64 0] 34)
    have HJ0:Hid (∀o1 o2,RfJ Enc w0 a b w6.heap.size X X1 0 o1 o2 (w6.alloc (.cells #[.int .i64 1,.int .u8 7,.int .i64 0,.int .i64 0] 34)).drew):=fun o1 o2=>by
     have cD:Chg (fun _=>False) (w6.alloc (.cells #[.int .i64 1,.int .u8 7,.int .i64 0,.int .i64 0] 34)) (w6.alloc (.cells #[.int .i64 1,.int .u8 7,.int .i64 0,.int .i64 0] 34)).drew:=(Chg.refl _ _).drew
     have h9:=(HT6.out.new S cY).new S cD
     exact⟨h9.chg,blk_keep (heap_alloc_last _ _) cD (fun f=>f),.inl ⟨by omega,F6,G,h9,fun f=>by have:=(S.lt HT6.out.ea _ f).2;omega,fun f=>by have:=(S.lt HT6.out.eb _ f).2;omega⟩⟩
    clear hX1 hsv cY HT6
    have HKB:Hid (X1.c.e.k+5≤140737488355328):=HKB1.out
    clear HKB1
    go_wp2_with fail
    generalize w6.alloc (.cells #[.int .i64 1,.int .u8 7,.int .i64 0,.int .i64 0] 34)=W18 at*
    generalize w6.heap.size=gy at*
    refine wp_region_setM (mk:=fun u=> #[_,_,_,_,_,_,_,_,_,_,_,_,_,_,_,_,_,_,_,_,_,_,_,_,_,_,_,_,_,_,_,_,_,_,_,_,_,_,_,_,_,_,_,_,_,_,_,_,_,_,_,_,_,_,_,_,_,_,_,_,_,_,_,_,_,_,_,_,_,_,_,_,_,_,_,_,_,_,_,_,_,_,_,_,_,_,_,_,_,_,_,_,_,_,_,_,_,_,_,_,_,_,_,_,_,_,_,_,_,_,_,u 111,u 112,u 113,u 114,u 115,u 116,u 117,u 118,u 119,u 120,u 121,u 122,u 123,u 124,u 125,u 126,u 127,u 128,u 129,u 130,u 131,u 132,u 133,u 134]) (G:=lookG [(111,.pointer (some ⟨a,0,none⟩)),(112,.agg #[.int .i64 1,.int .u8 7,.int .i64 0,.int .i64 0]),(113,.int .i64 0),(114,.int .i64 0),(115,.bool true),(116,.bool true),(117,.pointer (some ⟨b,0,none⟩)),(118,.agg #[.int .i64 1,.int .u8 7,.int .i64 0,.int .i64 0]),(119,.int .i64 0),(120,.int .i64 0),(121,.bool true),(122,.bool true),(123,.bool true),(124,.pointer (some ⟨a,0,none⟩)),(126,.string sv),(127,.pointer (some ⟨b,0,none⟩)),(129,.string sv),(130,.bool true),(131,.bool true),(132,.bool true),(133,.bool true),(134,.bool true)]) (J:=fun L_ u ww=> ∃q,q≤16∧L_ 2=decide (0<q)∧L_ 3=decide (1<q)∧L_ 4=decide (2<q)∧L_ 5=decide (3<q)∧L_ 8=decide (4<q)∧L_ 9=decide (5<q)∧L_ 10=decide (6<q)∧L_ 11=decide (7<q)∧L_ 12=decide (8<q)∧L_ 14=decide (9<q)∧L_ 17=decide (10<q)∧L_ 18=decide (11<q)∧L_ 19=decide (12<q)∧L_ 20=decide (13<q)∧L_ 21=decide (14<q)∧L_ 22=decide (15<q)∧RfJ Enc w0 a b gy X X1 q (u 125) (u 128) ww) [2,3,4,5,8,9,10,11,12,14,15,17,18,19,20,21,22] ([]) (fun _=>undef) rfl (by kernel_rfl) 24 _ rfl rfl (by kernel_rfl) (by kernel_rfl) ?_ ?_ ?_ ?_ ?_
    ·repeat (refine⟨fun _ _=>rfl,?_⟩)
     exact trivial
    ·intro L_ L2 u u2 ww h hj
     obtain⟨q,hq,l2,l3,l4,l5,l8,l9,l10,l11,l12,l14,l17,l18,l19,l20,l21,l22,hs⟩:=hj
     have e125_:u 125=u2 125:=(h 14 (by decide)).2
     have e128_:u 128=u2 128:=(h 17 (by decide)).2
     rw [e125_,e128_]at hs
     exact⟨q,hq,((h 2 (by decide)).1).symm.trans l2,((h 3 (by decide)).1).symm.trans l3,((h 4 (by decide)).1).symm.trans l4,((h 5 (by decide)).1).symm.trans l5,((h 8 (by decide)).1).symm.trans l8,((h 9 (by decide)).1).symm.trans l9,((h 10 (by decide)).1).symm.trans l10,((h 11 (by decide)).1).symm.trans l11,((h 12 (by decide)).1).symm.trans l12,((h 14 (by decide)).1).symm.trans l14,((h 17 (by decide)).1).symm.trans l17,((h 18 (by decide)).1).symm.trans l18,((h 19 (by decide)).1).symm.trans l19,((h 20 (by decide)).1).symm.trans l20,((h 21 (by decide)).1).symm.trans l21,((h 22 (by decide)).1).symm.trans l22,hs⟩
    ·exact⟨0,by omega,rfl,rfl,rfl,rfl,rfl,rfl,rfl,rfl,rfl,rfl,rfl,rfl,rfl,rfl,rfl,rfl,HJ0.out _ _⟩
    ·refine⟨?_,?_,?_,?_,?_,?_,?_,?_,?_,?_,?_,?_,?_,?_,?_,?_,?_,?_,?_,?_,?_,?_,?_,?_,trivial⟩
     ·show StepRS _ _ _ _ _ _ _ _
      unfold StepRS
      intro L_ u w_ hj hd K hK
      clear hd
      go_simp
      exact hK.out (.pointer (some ⟨a,0,none⟩)) rfl
     ·show StepRS _ _ _ _ _ _ _ _
      unfold StepRS
      intro L_ u w_ hj hd K hK
      clear hd
      obtain⟨q,hq,l2,l3,l4,l5,l8,l9,l10,l11,l12,l14,l17,l18,l19,l20,l21,l22,hs⟩:=hj
      clear l2 l3 l4 l5 l8 l9 l10 l11 l12 l14 l17 l18 l19 l20 l21 l22
      obtain⟨y0,y1,y2,y3⟩:=cells4y (show w_.heap[gy]?=some (.cells #[.int .i64 1,.int .u8 7,.int .i64 0,.int .i64 0] 34 (0,0))from hs.yb)
      go_simp
      exact hK.out _ rfl
     ·show StepWS _ _ _ _ _ _ _ _ _
      unfold StepWS
      intro L_ u w_ hj hli hwt hd K hK
      have h111:u 111= .pointer (some ⟨a,0,none⟩):=hd.get 0 (by kernel_rfl)
      have h112:u 112= .agg #[.int .i64 1,.int .u8 7,.int .i64 0,.int .i64 0]:=hd.get 1 (by kernel_rfl)
      clear hd
      simp only [h111,h112]at hK
      obtain⟨q,hq,l2,l3,l4,l5,l8,l9,l10,l11,l12,l14,l17,l18,l19,l20,l21,l22,hs⟩:=hj
      have kq: ¬0<q:=fun e=>by rw [l2,decide_eq_true e]at hli;cases hli
      obtain rfl:q=0:=by omega
      clear kq hq
      go_simp
      refine Calls.mono (hs.put1 S HT.out HI.out HPX.out HE0.out HPB.out) ?_
      rintro z w2 ⟨rfl,hn⟩
      exact hK.out _ w2 ⟨1,by omega,rfl,l3,l4,l5,l8,l9,l10,l11,l12,l14,l17,l18,l19,l20,l21,l22,hn⟩ rfl
     ·show StepWS _ _ _ _ _ _ _ _ _
      unfold StepWS
      intro L_ u w_ hj hli hwt hd K hK
      have h113:u 113= .int .i64 0:=hd.get 2 (by kernel_rfl)
      clear hd
      simp only [h113]at hK
      obtain⟨q,hq,l2,l3,l4,l5,l8,l9,l10,l11,l12,l14,l17,l18,l19,l20,l21,l22,hs⟩:=hj
      have kq: ¬1<q:=fun e=>by rw [l3,decide_eq_true e]at hli;cases hli
      have kw:L_ 2=true:=hwt ⟨2,.data⟩ (by simp) rfl
      rw [l2,decide_eq_true_eq]at kw
      obtain rfl:q=1:=by omega
      clear kq hq kw
      go_simp
      refine(num_any 0 w_).mono ?_
      rintro z w2 ⟨rfl,rfl⟩
      exact hK.out _ w_ ⟨2,by omega,l2,rfl,l4,l5,l8,l9,l10,l11,l12,l14,l17,l18,l19,l20,l21,l22,hs.same (by decide)⟩ rfl
     ·show StepWS _ _ _ _ _ _ _ _ _
      unfold StepWS
      intro L_ u w_ hj hli hwt hd K hK
      have h114:u 114= .int .i64 0:=hd.get 3 (by kernel_rfl)
      clear hd
      simp only [h114]at hK
      obtain⟨q,hq,l2,l3,l4,l5,l8,l9,l10,l11,l12,l14,l17,l18,l19,l20,l21,l22,hs⟩:=hj
      have kq: ¬2<q:=fun e=>by rw [l4,decide_eq_true e]at hli;cases hli
      have kw:L_ 3=true:=hwt ⟨3,.data⟩ (by simp) rfl
      rw [l3,decide_eq_true_eq]at kw
      obtain rfl:q=2:=by omega
      clear kq hq kw
      go_simp
      exact hK.out _ _ ⟨3,by omega,l2,l3,rfl,l5,l8,l9,l10,l11,l12,l14,l17,l18,l19,l20,l21,l22,hs.same (by decide)⟩ rfl
     ·show StepWS _ _ _ _ _ _ _ _ _
      unfold StepWS
      intro L_ u w_ hj hli hwt hd K hK
      have h115:u 115= .bool true:=hd.get 4 (by kernel_rfl)
      clear hd
      simp only [h115]at hK
      obtain⟨q,hq,l2,l3,l4,l5,l8,l9,l10,l11,l12,l14,l17,l18,l19,l20,l21,l22,hs⟩:=hj
      have kq: ¬3<q:=fun e=>by rw [l5,decide_eq_true e]at hli;cases hli
      have kw:L_ 4=true:=hwt ⟨4,.data⟩ (by simp) rfl
      rw [l4,decide_eq_true_eq]at kw
      obtain rfl:q=3:=by omega
      clear kq hq kw
      go_simp
      exact hK.out _ _ ⟨4,by omega,l2,l3,l4,rfl,l8,l9,l10,l11,l12,l14,l17,l18,l19,l20,l21,l22,hs.same (by decide)⟩ rfl
     ·show StepRS _ _ _ _ _ _ _ _
      unfold StepRS
      intro L_ u w_ hj hd K hK
      have h116:u 116= .bool true:=hd.get 5 (by kernel_rfl)
      clear hd
      simp only [h116]at hK
      go_simp
      exact hK.out (.pointer (some ⟨b,0,none⟩)) rfl
     ·show StepRS _ _ _ _ _ _ _ _
      unfold StepRS
      intro L_ u w_ hj hd K hK
      have h116:u 116= .bool true:=hd.get 5 (by kernel_rfl)
      clear hd
      simp only [h116]at hK
      obtain⟨q,hq,l2,l3,l4,l5,l8,l9,l10,l11,l12,l14,l17,l18,l19,l20,l21,l22,hs⟩:=hj
      clear l2 l3 l4 l5 l8 l9 l10 l11 l12 l14 l17 l18 l19 l20 l21 l22
      obtain⟨y0,y1,y2,y3⟩:=cells4y (show w_.heap[gy]?=some (.cells #[.int .i64 1,.int .u8 7,.int .i64 0,.int .i64 0] 34 (0,0))from hs.yb)
      go_simp
      exact hK.out _ rfl
     ·show StepWS _ _ _ _ _ _ _ _ _
      unfold StepWS
      intro L_ u w_ hj hli hwt hd K hK
      have h117:u 117= .pointer (some ⟨b,0,none⟩):=hd.get 6 (by kernel_rfl)
      have h118:u 118= .agg #[.int .i64 1,.int .u8 7,.int .i64 0,.int .i64 0]:=hd.get 7 (by kernel_rfl)
      have h116:u 116= .bool true:=hd.get 5 (by kernel_rfl)
      clear hd
      simp only [h117,h118,h116]at hK
      obtain⟨q,hq,l2,l3,l4,l5,l8,l9,l10,l11,l12,l14,l17,l18,l19,l20,l21,l22,hs⟩:=hj
      have kq: ¬4<q:=fun e=>by rw [l8,decide_eq_true e]at hli;cases hli
      have kw:L_ 5=true:=hwt ⟨5,.chain⟩ (by simp) rfl
      rw [l5,decide_eq_true_eq]at kw
      obtain rfl:q=4:=by omega
      clear kq hq kw
      go_simp
      refine Calls.mono (hs.put2 S HT.out HI.out HPX.out HE0.out HPB.out) ?_
      rintro z w2 ⟨rfl,hn⟩
      exact hK.out _ w2 ⟨5,by omega,l2,l3,l4,l5,rfl,l9,l10,l11,l12,l14,l17,l18,l19,l20,l21,l22,hn⟩ rfl
     ·show StepWS _ _ _ _ _ _ _ _ _
      unfold StepWS
      intro L_ u w_ hj hli hwt hd K hK
      have h119:u 119= .int .i64 0:=hd.get 8 (by kernel_rfl)
      have h116:u 116= .bool true:=hd.get 5 (by kernel_rfl)
      clear hd
      simp only [h119,h116]at hK
      obtain⟨q,hq,l2,l3,l4,l5,l8,l9,l10,l11,l12,l14,l17,l18,l19,l20,l21,l22,hs⟩:=hj
      have kq: ¬5<q:=fun e=>by rw [l9,decide_eq_true e]at hli;cases hli
      have kw:L_ 8=true:=hwt ⟨8,.data⟩ (by simp) rfl
      rw [l8,decide_eq_true_eq]at kw
      obtain rfl:q=5:=by omega
      clear kq hq kw
      go_simp
      refine(num_any 0 w_).mono ?_
      rintro z w2 ⟨rfl,rfl⟩
      exact hK.out _ w_ ⟨6,by omega,l2,l3,l4,l5,l8,rfl,l10,l11,l12,l14,l17,l18,l19,l20,l21,l22,hs.same (by decide)⟩ rfl
     ·show StepWS _ _ _ _ _ _ _ _ _
      unfold StepWS
      intro L_ u w_ hj hli hwt hd K hK
      have h120:u 120= .int .i64 0:=hd.get 9 (by kernel_rfl)
      have h116:u 116= .bool true:=hd.get 5 (by kernel_rfl)
      clear hd
      simp only [h120,h116]at hK
      obtain⟨q,hq,l2,l3,l4,l5,l8,l9,l10,l11,l12,l14,l17,l18,l19,l20,l21,l22,hs⟩:=hj
      have kq: ¬6<q:=fun e=>by rw [l10,decide_eq_true e]at hli;cases hli
      have kw:L_ 9=true:=hwt ⟨9,.data⟩ (by simp) rfl
      rw [l9,decide_eq_true_eq]at kw
      obtain rfl:q=6:=by omega
      clear kq hq kw
      go_simp
      exact hK.out _ _ ⟨7,by omega,l2,l3,l4,l5,l8,l9,rfl,l11,l12,l14,l17,l18,l19,l20,l21,l22,hs.same (by decide)⟩ rfl
     ·show StepWS _ _ _ _ _ _ _ _ _
      unfold StepWS
      intro L_ u w_ hj hli hwt hd K hK
      have h116:u 116= .bool true:=hd.get 5 (by kernel_rfl)
      have h121:u 121= .bool true:=hd.get 10 (by kernel_rfl)
      clear hd
      simp only [h116,h121]at hK
      obtain⟨q,hq,l2,l3,l4,l5,l8,l9,l10,l11,l12,l14,l17,l18,l19,l20,l21,l22,hs⟩:=hj
      have kq: ¬7<q:=fun e=>by rw [l11,decide_eq_true e]at hli;cases hli
      have kw:L_ 10=true:=hwt ⟨10,.data⟩ (by simp) rfl
      rw [l10,decide_eq_true_eq]at kw
      obtain rfl:q=7:=by omega
      clear kq hq kw
      go_simp
      exact hK.out _ _ ⟨8,by omega,l2,l3,l4,l5,l8,l9,l10,rfl,l12,l14,l17,l18,l19,l20,l21,l22,hs.same (by decide)⟩ rfl
     ·show StepWS _ _ _ _ _ _ _ _ _
      unfold StepWS
      intro L_ u w_ hj hli hwt hd K hK
      have h122:u 122= .bool true:=hd.get 11 (by kernel_rfl)
      clear hd
      simp only [h122]at hK
      obtain⟨q,hq,l2,l3,l4,l5,l8,l9,l10,l11,l12,l14,l17,l18,l19,l20,l21,l22,hs⟩:=hj
      have kq: ¬8<q:=fun e=>by rw [l12,decide_eq_true e]at hli;cases hli
      have kw:L_ 11=true:=hwt ⟨11,.data⟩ (by simp) rfl
      rw [l11,decide_eq_true_eq]at kw
      obtain rfl:q=8:=by omega
      clear kq hq kw
      go_simp
      exact hK.out _ _ ⟨9,by omega,l2,l3,l4,l5,l8,l9,l10,l11,rfl,l14,l17,l18,l19,l20,l21,l22,hs.same (by decide)⟩ rfl
     ·show StepRS _ _ _ _ _ _ _ _
      unfold StepRS
      intro L_ u w_ hj hd K hK
      have h123:u 123= .bool true:=hd.get 12 (by kernel_rfl)
      clear hd
      simp only [h123]at hK
      go_simp
      exact hK.out (.pointer (some ⟨a,0,none⟩)) rfl
     ·show StepWS _ _ _ _ _ _ _ _ _
      unfold StepWS
      intro L_ u w_ hj hli hwt hd K hK
      have h124:u 124= .pointer (some ⟨a,0,none⟩):=hd.get 13 (by kernel_rfl)
      have h123:u 123= .bool true:=hd.get 12 (by kernel_rfl)
      clear hd
      simp only [h124,h123]at hK
      obtain⟨q,hq,l2,l3,l4,l5,l8,l9,l10,l11,l12,l14,l17,l18,l19,l20,l21,l22,hs⟩:=hj
      have kq: ¬9<q:=fun e=>by rw [l14,decide_eq_true e]at hli;cases hli
      have kw:L_ 12=true:=hwt ⟨12,.chain⟩ (by simp) rfl
      rw [l12,decide_eq_true_eq]at kw
      obtain rfl:q=9:=by omega
      clear kq hq kw
      go_simp
      refine Calls.mono (hs.cut1 S HT.out HI1.out HKB.out) ?_
      rintro z w2 ⟨ov,rfl,hn⟩
      exact hK.out _ w2 ⟨10,by omega,l2,l3,l4,l5,l8,l9,l10,l11,l12,rfl,l17,l18,l19,l20,l21,l22,hn⟩ trivial
     ·show StepWS _ _ _ _ _ _ _ _ _
      unfold StepWS
      intro L_ u w_ hj hli hwt hd K hK
      have h123:u 123= .bool true:=hd.get 12 (by kernel_rfl)
      clear hd
      simp only [h123]at hK
      obtain⟨q,hq,l2,l3,l4,l5,l8,l9,l10,l11,l12,l14,l17,l18,l19,l20,l21,l22,hs⟩:=hj
      have kw:L_ 14=true:=hwt ⟨14,.data⟩ (by simp) rfl
      have lw:9<q:=by rw [l14]at kw;exact of_decide_eq_true kw
      obtain⟨bb,hown⟩:=hs.own1 (by omega)
      obtain⟨oa,oc,hov⟩:=form1 hown
      rw [hov]at hown
      have hcv:=conv_own hown
      rw [HSV.out]at hcv
      simp only [hov]at hK⊢
      go_simp
      exact hK.out _ _ ⟨q,hq,l2,l3,l4,l5,l8,l9,l10,l11,l12,l14,l17,l18,l19,l20,l21,l22,hs⟩ rfl
     ·show StepRS _ _ _ _ _ _ _ _
      unfold StepRS
      intro L_ u w_ hj hd K hK
      have h123:u 123= .bool true:=hd.get 12 (by kernel_rfl)
      clear hd
      simp only [h123]at hK
      go_simp
      exact hK.out (.pointer (some ⟨b,0,none⟩)) rfl
     ·show StepWS _ _ _ _ _ _ _ _ _
      unfold StepWS
      intro L_ u w_ hj hli hwt hd K hK
      have h127:u 127= .pointer (some ⟨b,0,none⟩):=hd.get 16 (by kernel_rfl)
      have h123:u 123= .bool true:=hd.get 12 (by kernel_rfl)
      clear hd
      simp only [h127,h123]at hK
      obtain⟨q,hq,l2,l3,l4,l5,l8,l9,l10,l11,l12,l14,l17,l18,l19,l20,l21,l22,hs⟩:=hj
      have kq: ¬10<q:=fun e=>by rw [l17,decide_eq_true e]at hli;cases hli
      have kw:L_ 14=true:=hwt ⟨14,.chain⟩ (by simp) rfl
      rw [l14,decide_eq_true_eq]at kw
      obtain rfl:q=10:=by omega
      clear kq hq kw
      go_simp
      refine Calls.mono (hs.cut2 S HT.out HI1.out HKB.out) ?_
      rintro z w2 ⟨ov,rfl,hn⟩
      exact hK.out _ w2 ⟨11,by omega,l2,l3,l4,l5,l8,l9,l10,l11,l12,l14,rfl,l18,l19,l20,l21,l22,hn⟩ trivial
     ·show StepWS _ _ _ _ _ _ _ _ _
      unfold StepWS
      intro L_ u w_ hj hli hwt hd K hK
      have h123:u 123= .bool true:=hd.get 12 (by kernel_rfl)
      clear hd
      simp only [h123]at hK
      obtain⟨q,hq,l2,l3,l4,l5,l8,l9,l10,l11,l12,l14,l17,l18,l19,l20,l21,l22,hs⟩:=hj
      have kq: ¬11<q:=fun e=>by rw [l18,decide_eq_true e]at hli;cases hli
      have kw:L_ 17=true:=hwt ⟨17,.data⟩ (by simp) rfl
      rw [l17,decide_eq_true_eq]at kw
      obtain rfl:q=11:=by omega
      clear kq hq kw
      obtain⟨bb,hown⟩:=hs.own2 (by omega)
      obtain⟨oa,oc,hov⟩:=form1 hown
      rw [hov]at hown
      have hcv:=conv_own hown
      rw [HSV.out]at hcv
      simp only [hov]at hK⊢
      go_simp
      exact hK.out _ _ ⟨12,by omega,l2,l3,l4,l5,l8,l9,l10,l11,l12,l14,l17,rfl,l19,l20,l21,l22,hs.same (by decide)⟩ rfl
     ·show StepWS _ _ _ _ _ _ _ _ _
      unfold StepWS
      intro L_ u w_ hj hli hwt hd K hK
      have h126:u 126= .string sv:=hd.get 15 (by kernel_rfl)
      have h129:u 129= .string sv:=hd.get 18 (by kernel_rfl)
      have h123:u 123= .bool true:=hd.get 12 (by kernel_rfl)
      clear hd
      simp only [h126,h129,h123]at hK
      obtain⟨q,hq,l2,l3,l4,l5,l8,l9,l10,l11,l12,l14,l17,l18,l19,l20,l21,l22,hs⟩:=hj
      have kq: ¬12<q:=fun e=>by rw [l19,decide_eq_true e]at hli;cases hli
      have kw:L_ 18=true:=hwt ⟨18,.data⟩ (by simp) rfl
      rw [l18,decide_eq_true_eq]at kw
      obtain rfl:q=12:=by omega
      clear kq hq kw
      go_simp
      exact hK.out _ _ ⟨13,by omega,l2,l3,l4,l5,l8,l9,l10,l11,l12,l14,l17,l18,rfl,l20,l21,l22,hs.same (by decide)⟩ rfl
     ·show StepWS _ _ _ _ _ _ _ _ _
      unfold StepWS
      intro L_ u w_ hj hli hwt hd K hK
      have h123:u 123= .bool true:=hd.get 12 (by kernel_rfl)
      have h130:u 130= .bool true:=hd.get 19 (by kernel_rfl)
      clear hd
      simp only [h123,h130]at hK
      obtain⟨q,hq,l2,l3,l4,l5,l8,l9,l10,l11,l12,l14,l17,l18,l19,l20,l21,l22,hs⟩:=hj
      have kq: ¬13<q:=fun e=>by rw [l20,decide_eq_true e]at hli;cases hli
      have kw:L_ 19=true:=hwt ⟨19,.data⟩ (by simp) rfl
      rw [l19,decide_eq_true_eq]at kw
      obtain rfl:q=13:=by omega
      clear kq hq kw
      go_simp
      exact hK.out _ _ ⟨14,by omega,l2,l3,l4,l5,l8,l9,l10,l11,l12,l14,l17,l18,l19,rfl,l21,l22,hs.same (by decide)⟩ rfl
     ·show StepWS _ _ _ _ _ _ _ _ _
      unfold StepWS
      intro L_ u w_ hj hli hwt hd K hK
      have h131:u 131= .bool true:=hd.get 20 (by kernel_rfl)
      clear hd
      simp only [h131]at hK
      obtain⟨q,hq,l2,l3,l4,l5,l8,l9,l10,l11,l12,l14,l17,l18,l19,l20,l21,l22,hs⟩:=hj
      have kq: ¬14<q:=fun e=>by rw [l21,decide_eq_true e]at hli;cases hli
      have kw:L_ 20=true:=hwt ⟨20,.data⟩ (by simp) rfl
      rw [l20,decide_eq_true_eq]at kw
      obtain rfl:q=14:=by omega
      clear kq hq kw
      go_simp
      exact hK.out _ _ ⟨15,by omega,l2,l3,l4,l5,l8,l9,l10,l11,l12,l14,l17,l18,l19,l20,rfl,l22,hs.same (by decide)⟩ rfl
     ·show StepWS _ _ _ _ _ _ _ _ _
      unfold StepWS
      intro L_ u w_ hj hli hwt hd K hK
      have h132:u 132= .bool true:=hd.get 21 (by kernel_rfl)
      clear hd
      simp only [h132]at hK
      obtain⟨q,hq,l2,l3,l4,l5,l8,l9,l10,l11,l12,l14,l17,l18,l19,l20,l21,l22,hs⟩:=hj
      have kq: ¬15<q:=fun e=>by rw [l22,decide_eq_true e]at hli;cases hli
      have kw:L_ 21=true:=hwt ⟨21,.chain⟩ (by simp) rfl
      rw [l21,decide_eq_true_eq]at kw
      obtain rfl:q=15:=by omega
      clear kq hq kw
      go_simp
      refine Calls.mono (known_any S w0.heap.size w_ (S.tn HT.out hs.chg) hs.chg.size) ?_
      rintro z w2 ⟨rfl,c2⟩
      exact hK.out _ w2 ⟨16,by omega,l2,l3,l4,l5,l8,l9,l10,l11,l12,l14,l17,l18,l19,l20,l21,rfl,hs.last c2⟩ rfl
     ·show StepRS _ _ _ _ _ _ _ _
      unfold StepRS
      intro L_ u w_ hj hd K hK
      have h132:u 132= .bool true:=hd.get 21 (by kernel_rfl)
      have h133:u 133= .bool true:=hd.get 22 (by kernel_rfl)
      clear hd
      simp only [h132,h133]at hK
      go_simp
      exact hK.out (.bool true) rfl
    ·intro u w7 hj hA K hK
     obtain⟨q,hq,l2,l3,l4,l5,l8,l9,l10,l11,l12,l14,l17,l18,l19,l20,l21,l22,hs⟩:=hj
     have hqn:15<q:=of_decide_eq_true (Eq.symm l22)
     clear l2 l3 l4 l5 l8 l9 l10 l11 l12 l14 l17 l18 l19 l20 l21 l22
     have HC9:Hid _:=hs.chg
     have e134:u 134= .bool true:=hA.at 134 (by kernel_rfl)
     clear hs hA
     simp only [e134]
     go_simp
     refine hK.out _ _ ?_
     clear hK
     go_wp2
     go_ret
     exact⟨rfl,HC9.out⟩
end Go.Proofs.YthideplpcnhncaaGreatDoor
