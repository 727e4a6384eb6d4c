/- Of no statement by itself: Jp, Jr, Yw, Zs (without blanks and remarks). -/
import Derived.Test.YthideplpcnhncaaGreatDoorJm
import Derived.Test.YthideplpcnhncaaGreatDoorB24Jj
import Derived.Test.YthideplpcnhncaaGreatDoorB16Jd
namespace Go.Proofs.YthideplpcnhncaaGreatDoor
open Go.RowKit
open St12 Sy13 Lz14
set_option linter.unusedVariables false
set_option linter.unusedSimpArgs false
theorem btL_other {p:Prp}{t a t' a':Nat}(hl:Lz14.lone t)(ha:a<cntS p t)(ht':t'≤17)(ha':a'<cntS p t')(hne: ¬(t'=t∧a'=a)): ∀(l:List Nat) (m:Nat) (c:Cd),(∀q∈wayQ 0 m l,q.ok (lnS p t))→rowS p (codeL c (btL (unS t a 0).1 m l)).pr t' a'=rowS p c.pr t' a'
 | [],m,c,_=>rfl
 |b::l,m,c,h=>by
  have h1:=h ⟨false,((0+m:Nat):Int),0,b⟩ (by simp [wayQ])
  have hm:m<lnS p t:=by
   simp only [Q.ok,Bool.false_eq_true,if_false]at h1
   omega
  have e:codeL c (btL (unS t a 0).1 m (b::l))=codeL (code1 c ⟨some (unS t a 0).1,m,b⟩) (btL (unS t a 0).1 (2*m+b) l):=rfl
  rw [e,btL_other hl ha ht' ha' hne l (2*m+b) _ (fun q hq=>h q (by simp [wayQ,hq]))]
  have hu:=lone_un hl a m
  have h9:=row_off c.pr (lone_le hl) ha hm ht' ha' hne (Prob.nx (c.pr (unS t a 0).1 m) b)
  rw [hu]at h9
  exact h9
theorem Le.turn {w w':World}{B a:Nat}{D:Dir}{V:Lst}{wa:Nat}{vw:Value}{ea:Nat}{v v':Value}{p:Prp}{n:Nat}{bs:List Nat}{s:Stt}{c c':Cd}(h:Le w B a D V wa vw ea v ⟨p,n,bs,s,c⟩){S:Nat→Prop}(hc:Chg S w w')(t i:Nat)(ht:t<18)(hi:i<cntS p t)(hS: ∀z,S z→Foot ea v z∨(D t i).2.ownBlock=some z)(hE:Enc w' B ea v' c'.e)(hT:St w' B (D t i).1 (D t i).2 (rowS p c'.pr t i))(hO: ∀t' i',t'<18→i'<cntS p t'→ ¬(t'=t∧i'=i)→rowS p c'.pr t' i'=rowS p c.pr t' i')(hm:Moved w v v'):Le w' B a D V wa vw ea v' ⟨p,n,bs,s,c'⟩:=by
 have hs:=(h.pt.fm t ht).st i hi
 have tyS: ∀z,S z→ ∃cs ty,w.heap[z]?=some (.cells cs ty (0,0))∧(ty=141∨ty=5∨ty=226):=fun z k=>by
  rcases hS z k with k|k
  ·rcases k with rfl|k
   ·obtain⟨cs,hb⟩:=h.enc.lt3.2.1
    exact⟨cs,_,hb,.inl rfl⟩
   ·obtain⟨cs,hb⟩:=(h.enc.lt3.2.2 z k).2
    exact⟨cs,_,hb,.inr (.inl rfl)⟩
  ·obtain⟨cs,hb⟩:=owns_blk hs.own k
   exact⟨cs,_,hb,.inr (.inr rfl)⟩
 have off: ∀(z:Nat) (cs:Array Value) (ty:TypeId),w.heap[z]?=some (.cells cs ty (0,0))→ty≠141→ty≠5→ty≠226→ ¬S z:=fun z cs ty hb h1 h2 h3 k=>by
  obtain⟨cs',ty',hb',e⟩:=tyS z k
  refine ty_ne hb hb' (fun e2=> ?_)
  subst e2
  rcases e with e|e|e
  ·exact h1 e
  ·exact h2 e
  ·exact h3 e
 refine⟨h.ha,blk_keep h.blk hc (off a _ _ h.blk (by decide) (by decide) (by decide)),⟨fun t' ht'=>⟨fun i' hi'=> ?_,(h.pt.fm t' ht').ap⟩,h.pt.ap,fun t' ht' hl=>ownsRow_keep (h.pt.ls t' ht' hl) hc (fun g e=> ?_)⟩,winSpec.keep h.win hc (fun z f=> ?_),hE,fun g e e2=> ?_⟩
 ·by_cases e:t'=t∧i'=i
  ·obtain⟨rfl,rfl⟩:=e
   exact hT
  ·show St w' B (D t' i').1 (D t' i').2 (rowS p c'.pr t' i')
   rw [hO t' i' ht' hi' e]
   have hs':=(h.pt.fm t' ht').st i' hi'
   refine hs'.keep hc (off _ _ _ hs'.blk (by decide) (by decide) (by decide)) (fun g hg k=> ?_)
   rcases hS g k with k|k
   ·obtain⟨cs,hb⟩:=owns_blk hs'.own hg
    rcases k with rfl|k
    ·obtain⟨cs',hb'⟩:=h.enc.lt3.2.1
     exact ty_ne hb hb' (by decide)
    ·obtain⟨cs',hb'⟩:=(h.enc.lt3.2.2 g k).2
     exact ty_ne hb hb' (by decide)
   ·by_cases e3:t'=t
    ·subst e3
     exact((h.pt.fm t' ht').ap i' hi' i hi (fun e4=>e ⟨rfl,e4⟩)).2 g hg k
    ·exact(h.pt.ap t' ht' t ht e3 i' hi' i hi).2 g hg k
 ·obtain⟨cs,hb⟩:=owns_blk (h.pt.ls t' ht' hl) e
  exact off g _ _ hb (by decide) (by decide) (by decide)
 ·rcases f with rfl|f
  ·obtain⟨cs,hb⟩:=winSpec.blk h.win
   exact off _ _ _ hb (by decide) (by decide) (by decide)
  ·intro k
   obtain⟨cs,hb⟩:=winSpec.ring h.win z f
   rcases hS z k with k|k
   ·rcases k with rfl|k
    ·obtain⟨cs',hb'⟩:=h.enc.lt3.2.1
     exact ty_ne hb hb' (by decide)
    ·exact h.ap z k f
   ·obtain⟨cs',hb'⟩:=owns_blk hs.own k
    exact ty_ne hb hb' (by decide)
 ·rcases hm g e with k|k
  ·exact h.ap g k e2
  ·have:=(winSpec.lt h.win g (.inr e2)).2
   omega
def Sc (p:Prp)(D:Dir)(ea:Nat)(ve:Value)(z:Nat):Prop:=Foot ea ve z∨ ∃t i,t<18∧i<cntS p t∧(D t i).2.ownBlock=some z
structure Ic (w0:World) (B a:Nat) (D:Dir) (V:Lst) (wa:Nat) (vw:Value) (ea:Nat) (ve:Value) (X:Lz) (l:List Bt) (w:World) (v:Value):Prop where
 le:Le w B a D V wa vw ea v ⟨X.p,X.n,X.bs,X.s,codeL X.c l⟩
 ch:Chg (Sc X.p D ea ve) w0 w
 mv:Moved w0 ve v
 tb:Tab w
 hB:B≤w0.heap.size∧0<B
def IcE (w0:World)(B a:Nat)(D:Dir)(V:Lst)(wa:Nat)(vw:Value)(ea:Nat)(ve:Value)(X:Lz)(l:List Bt)(w:World):Prop:= ∃v,Ic w0 B a D V wa vw ea ve X l w v
theorem tab_lt {w w':World}{S:Nat→Prop}(h:Tab w)(hc:Chg S w w')(h0: ¬S 0):Tab w':=by
 obtain⟨ty,fr,hb⟩:=h
 exact⟨ty,fr,(hc.block 0 (lt_of_blk hb) h0).trans hb⟩
theorem Ic.new {w0 w w':World}{B a:Nat}{D:Dir}{V:Lst}{wa:Nat}{vw:Value}{ea:Nat}{ve:Value}{X:Lz}{l:List Bt}{v:Value}(h:Ic w0 B a D V wa vw ea ve X l w v)(hc:Chg (fun _=>False) w w'):Ic w0 B a D V wa vw ea ve X l w' v:=⟨h.le.new hc,h.ch.trans hc (fun _ f=>f.elim),h.mv,tab_keep h.tb hc,h.hB⟩
theorem Ic.go {w0 w w':World}{B a:Nat}{D:Dir}{V:Lst}{wa:Nat}{vw:Value}{ea:Nat}{ve:Value}{X:Lz}{l l':List Bt}{v v':Value}(h:Ic w0 B a D V wa vw ea ve X l w v){S:Nat→Prop}(hc:Chg S w w')(hl:Le w' B a D V wa vw ea v' ⟨X.p,X.n,X.bs,X.s,codeL X.c (l++l')⟩)(hS: ∀z,S z→Foot ea v z∨ ∃t i,t<18∧i<cntS X.p t∧(D t i).2.ownBlock=some z)(hm:Moved w v v'):Ic w0 B a D V wa vw ea ve X (l++l') w' v':=by
 refine⟨hl,h.ch.trans hc (fun z k=> ?_),h.mv.trans h.ch.size hm,tab_lt h.tb hc (fun k=> ?_),h.hB⟩
 ·rcases hS z k with k|k
  ·rcases k with rfl|k
   ·exact .inl (.inl (.inl rfl))
   ·rcases h.mv z k with k|k
    ·exact .inl (.inl (.inr k))
    ·exact .inr k
  ·exact .inl (.inr k)
 ·have hb:=h.hB.2
  have hz:FE X.p D V a wa vw ea v 0:=by
   rcases hS 0 k with k|⟨t,i,ht,hi,k⟩
   ·exact .inr (.inr (.inl k))
   ·exact .inr (.inr (.inr (.inl ⟨t,i,ht,hi,.inr k⟩)))
  have:=(h.le.lt hz).1
  omega
theorem foot_off {w:World}{B a:Nat}{D:Dir}{V:Lst}{wa:Nat}{vw:Value}{ea:Nat}{v:Value}{X:Lz}(h:Le w B a D V wa vw ea v X){S:Nat→Prop}(hS: ∀z,S z→Foot ea v z∨ ∃t i,t<18∧i<cntS X.p t∧(D t i).2.ownBlock=some z){w':World}(hc:Chg S w w'){g:Nat}{cs:Array Value}(hg:w.heap[g]?=some (.cells cs 34 (0,0))):w'.heap[g]?=some (.cells cs 34 (0,0)):=blk_keep hg hc (fun k=>by
 refine h.off hg (by decide) (by decide) (by decide) (by decide) (by decide) (by decide) (by decide) ?_
 rcases hS g k with k|⟨t,i,ht,hi,k⟩
 ·exact .inr (.inr (.inl k))
 ·exact .inr (.inr (.inr (.inl ⟨t,i,ht,hi,.inr k⟩))))
theorem len_codeL (X:Lz)(l:List Bt):(codeL X.c l).e.k≤X.c.e.k+l.length:=(codeL_k l X.c).2
set_option maxHeartbeats 4000000 in
set_option maxRecDepth 100000 in
theorem pcbit {w0:World}{B a:Nat}{D:Dir}{V:Lst}{wa:Nat}{vw:Value}{ea:Nat}{ve:Value}{X:Lz}(hI:Lz14.I X)(hk:X.c.e.k+104≤140737488355328)(g:Nat)(cs:Array Value)(l:List Bt)(w:World)(t i j b:Nat)(h:Ib (IcE w0 B a D V wa vw ea ve X) g cs l w)(ht:t<18)(hi:i<cntS X.p t)(hj:j<lnS X.p t)(hb:b≤1)(hl:l.length+1≤87):Calls Tryz.prog 205 #[.agg #[.pointer (some ⟨ea,0,none⟩)],.pointer (some ⟨(D t i).1,0,none⟩),.int .i64 (j:Int),.int .i64 (b:Int)] w fun e w'=>e= .returned (.tuple #[])∧Ib (IcE w0 B a D V wa vw ea ve X) g cs (l++[⟨some (unS t i j).1,(unS t i j).2,b⟩]) w':=by
 obtain⟨⟨v,h1⟩,hbx⟩:=h
 have cA:=chg_one w (.cells #[.pointer (some ⟨ea,0,none⟩)] 98)
 have h2:=h1.new cA
 have hbx2:=blk_keep hbx cA (fun f=>f)
 have hbc:(w.alloc (.cells #[.pointer (some ⟨ea,0,none⟩)] 98)).cell? ⟨w.heap.size,0,none⟩=some (.pointer (some ⟨ea,0,none⟩)):=by rw [cell_of_row _ _ _ _ _ _ (heap_alloc_last w _)];rfl
 have hin:=codeL_in l hI.c
 have hjl:j<(rowS X.p (codeL X.c l).pr t i).length:=by rw [row_len];exact hj
 have HBT:Hid (Calls Tryz.prog 209 #[.pointer (some ⟨ea,0,none⟩),.pointer (some ⟨(D t i).1,0,none⟩),.int .i64 (j:Int),.int .i64 (b:Int)] (w.alloc (.cells #[.pointer (some ⟨ea,0,none⟩)] 98)) fun x w'=>x= .returned (.int .i64 0)∧Ib (IcE w0 B a D V wa vw ea ve X) g cs (l++[⟨some (unS t i j).1,(unS t i j).2,b⟩]) w'):=by
  have hlc:=len_codeL X l
  refine(bit_in B B ea (D t i).1 (D t i).2 v (rowS X.p (codeL X.c l).pr t i) j (b:Int) (codeL X.c l).e _ ((h2.le.pt.fm t ht).st i hi) (row_in hin.pr t i) hjl h2.le.enc hin.ok (by omega) (Nat.le_trans h2.hB.1 h2.ch.size)).mono ?_
  rintro x w' ⟨rfl,v',hE,hT,hc,hm⟩
  have hS: ∀z,(Foot ea v z∨(D t i).2.ownBlock=some z)→Foot ea v z∨ ∃t i,t<18∧i<cntS X.p t∧(D t i).2.ownBlock=some z:=fun z k=>by
   rcases k with k|k
   ·exact .inl k
   ·exact .inr ⟨t,i,ht,hi,k⟩
  rw [row_at hjl]at hE hT
  have e1:codeL X.c (l++[⟨some (unS t i j).1,(unS t i j).2,b⟩])=code1 (codeL X.c l) ⟨some (unS t i j).1,(unS t i j).2,b⟩:=by rw [codeL_app];rfl
  have hle:Le w' B a D V wa vw ea v' ⟨X.p,X.n,X.bs,X.s,codeL X.c (l++[⟨some (unS t i j).1,(unS t i j).2,b⟩])⟩:=by
   rw [e1]
   refine h2.le.turn hc t i ht hi (fun z k=>k) hE ?_ (fun t' i' ht' hi' hne=>row_off _ (by omega) hi hj (by omega) hi' hne _) hm
   rw [show(code1 (codeL X.c l) ⟨some (unS t i j).1,(unS t i j).2,b⟩).pr=Lz14.upd (codeL X.c l).pr (unS t i j).1 (unS t i j).2 (Prob.nx ((codeL X.c l).pr (unS t i j).1 (unS t i j).2) b)from rfl,row_upd _ (by omega) hi hj]
   exact hT
  exact⟨rfl,⟨v',h2.go hc hle hS hm⟩,foot_off h2.le hS hc hbx2⟩
 clear h1 h2 hbx hbx2 cA hin hjl
 go_enter Tryz.func205,Tryz.ntmps205
 go_wp2_with fail
 refine Calls.mono HBT.out ?_
 rintro z w' ⟨rfl,h3⟩
 go_wp2
 first|go_end0|(refine bodyPost_ret (results_none rfl _ _ _) rfl ?_)
 exact⟨rfl,h3⟩
set_option maxHeartbeats 4000000 in
set_option maxRecDepth 100000 in
theorem pctree {w0:World}{B a:Nat}{D:Dir}{V:Lst}{wa:Nat}{vw:Value}{ea:Nat}{ve:Value}{X:Lz}(hI:Lz14.I X)(hk:X.c.e.k+104≤140737488355328)(g:Nat)(cs:Array Value)(l:List Bt)(w:World)(t i n x:Nat)(h:Ib (IcE w0 B a D V wa vw ea ve X) g cs l w)(hlo:Lz14.lone t)(hi:i<cntS X.p t)(hn:n≤8)(hn2:2^n≤lnS X.p t)(hx:x<2^n)(hl:l.length+n≤87):Calls Tryz.prog 207 #[.agg #[.pointer (some ⟨ea,0,none⟩)],.pointer (some ⟨(D t i).1,0,none⟩),.int .i64 (n:Int),.int .i64 (x:Int)] w fun e w'=>e= .returned (.tuple #[])∧Ib (IcE w0 B a D V wa vw ea ve X) g cs (l++treeB (unS t i 0).1 n x) w':=by
 obtain⟨⟨v,h1⟩,hbx⟩:=h
 have cA:=chg_one w (.cells #[.pointer (some ⟨ea,0,none⟩)] 98)
 have h2:=h1.new cA
 have hbx2:=blk_keep hbx cA (fun f=>f)
 have hbc:(w.alloc (.cells #[.pointer (some ⟨ea,0,none⟩)] 98)).cell? ⟨w.heap.size,0,none⟩=some (.pointer (some ⟨ea,0,none⟩)):=by rw [cell_of_row _ _ _ _ _ _ (heap_alloc_last w _)];rfl
 have hin:=codeL_in l hI.c
 have ht:t<18:=by have:=lone_le hlo;omega
 have hp8:=pow_le8 hn
 have hln:=ln_le hI.al t
 have HBT:Hid (Calls Tryz.prog 211 #[.pointer (some ⟨ea,0,none⟩),.pointer (some ⟨(D t i).1,0,none⟩),.int .i64 0,.int .i64 (n:Int),.int .i64 (x:Int)] (w.alloc (.cells #[.pointer (some ⟨ea,0,none⟩)] 98)) fun y w'=>y= .returned (.int .i64 0)∧Ib (IcE w0 B a D V wa vw ea ve X) g cs (l++treeB (unS t i 0).1 n x) w'):=by
  have hlc:=len_codeL X l
  refine(tree_put.put false B B ea (D t i).1 v (D t i).2 (codeL X.c l).e (rowS X.p (codeL X.c l).pr t i) 0 (n:Int) (x:Int) _ h2.le.enc hin.ok (by omega) (Nat.le_trans h2.hB.1 h2.ch.size) ((h2.le.pt.fm t ht).st i hi) (row_in hin.pr t i) (by rw [row_len];omega) ⟨by omega,by omega⟩ ⟨by omega,by omega⟩ ⟨by omega,by omega⟩).mono ?_
  have hfit:Fits (rowS X.p (codeL X.c l).pr t i).length 0 (n:Int) (x:Int):=by
   unfold Fits Stands
   rw [row_len,Int.toNat_natCast]
   have e9:(2:Int)^n=((2^n:Nat):Int):=by simp
   rw [e9]
   omega
  rintro y w' (⟨hno,_⟩|⟨_,rfl,v',hE,hT,hc,hm⟩)
  ·exact absurd hfit hno
  have hS: ∀z,Fp ea v (D t i).2 z→Foot ea v z∨ ∃t i,t<18∧i<cntS X.p t∧(D t i).2.ownBlock=some z:=fun z k=>by
   rcases k with k|k
   ·exact .inl k
   ·exact .inr ⟨t,i,ht,hi,k⟩
  have hok: ∀q∈wayQ 0 1 (bitsOf false n x),q.ok (lnS X.p t):=wayQ_ok1 (n:=n) (by omega) (bitsOf_01 _ _ _) (by rw [bitsOf_len];omega)
  have e0:numQ false 0 (n:Int) (x:Int)=wayQ 0 1 (bitsOf false n x):=by unfold numQ;simp
  rw [e0,enc_bt hlo hi _ 1 (codeL X.c l) (bitsOf_01 _ _ _) hok]at hE hT
  have e1:codeL X.c (l++treeB (unS t i 0).1 n x)=codeL (codeL X.c l) (btL (unS t i 0).1 1 (bitsOf false n x)):=by rw [codeL_app,tree_bt]
  have hle:Le w' B a D V wa vw ea v' ⟨X.p,X.n,X.bs,X.s,codeL X.c (l++treeB (unS t i 0).1 n x)⟩:=by
   rw [e1]
   exact h2.le.turn hc t i ht hi (fun z k=>k) hE hT (fun t' i' ht' hi' hne=>btL_other hlo hi (by omega) hi' hne _ 1 _ hok) hm
  exact⟨rfl,⟨v',h2.go hc hle hS hm⟩,foot_off h2.le hS hc hbx2⟩
 clear h1 h2 hbx hbx2 cA hin hp8 hx hn2 hln
 go_enter Tryz.func207,Tryz.ntmps207
 go_wp2_with fail
 refine Calls.mono HBT.out ?_
 rintro z w' ⟨rfl,h3⟩
 go_wp2
 first|go_end0|(refine bodyPost_ret (results_none rfl _ _ _) rfl ?_)
 exact⟨rfl,h3⟩
set_option maxHeartbeats 4000000 in
set_option maxRecDepth 100000 in
theorem pcback {w0:World}{B a:Nat}{D:Dir}{V:Lst}{wa:Nat}{vw:Value}{ea:Nat}{ve:Value}{X:Lz}(hI:Lz14.I X)(hk:X.c.e.k+104≤140737488355328)(g:Nat)(cs:Array Value)(l:List Bt)(w:World)(t i n x:Nat)(h:Ib (IcE w0 B a D V wa vw ea ve X) g cs l w)(hlo:Lz14.lone t)(hi:i<cntS X.p t)(hn:n≤8)(hn2:2^n≤lnS X.p t)(hx:x<2^n)(hl:l.length+n≤87):Calls Tryz.prog 204 #[.agg #[.pointer (some ⟨ea,0,none⟩)],.pointer (some ⟨(D t i).1,0,none⟩),.int .i64 (n:Int),.int .i64 (x:Int)] w fun e w'=>e= .returned (.tuple #[])∧Ib (IcE w0 B a D V wa vw ea ve X) g cs (l++wayB (unS t i 0).1 n x) w':=by
 obtain⟨⟨v,h1⟩,hbx⟩:=h
 have cA:=chg_one w (.cells #[.pointer (some ⟨ea,0,none⟩)] 98)
 have h2:=h1.new cA
 have hbx2:=blk_keep hbx cA (fun f=>f)
 have hbc:(w.alloc (.cells #[.pointer (some ⟨ea,0,none⟩)] 98)).cell? ⟨w.heap.size,0,none⟩=some (.pointer (some ⟨ea,0,none⟩)):=by rw [cell_of_row _ _ _ _ _ _ (heap_alloc_last w _)];rfl
 have hin:=codeL_in l hI.c
 have ht:t<18:=by have:=lone_le hlo;omega
 have hp8:=pow_le8 hn
 have hln:=ln_le hI.al t
 have HBT:Hid (Calls Tryz.prog 208 #[.pointer (some ⟨ea,0,none⟩),.pointer (some ⟨(D t i).1,0,none⟩),.int .i64 0,.int .i64 (n:Int),.int .i64 (x:Int)] (w.alloc (.cells #[.pointer (some ⟨ea,0,none⟩)] 98)) fun y w'=>y= .returned (.int .i64 0)∧Ib (IcE w0 B a D V wa vw ea ve X) g cs (l++wayB (unS t i 0).1 n x) w'):=by
  have hlc:=len_codeL X l
  refine(tree_put.put true B B ea (D t i).1 v (D t i).2 (codeL X.c l).e (rowS X.p (codeL X.c l).pr t i) 0 (n:Int) (x:Int) _ h2.le.enc hin.ok (by omega) (Nat.le_trans h2.hB.1 h2.ch.size) ((h2.le.pt.fm t ht).st i hi) (row_in hin.pr t i) (by rw [row_len];omega) ⟨by omega,by omega⟩ ⟨by omega,by omega⟩ ⟨by omega,by omega⟩).mono ?_
  have hfit:Fits (rowS X.p (codeL X.c l).pr t i).length 0 (n:Int) (x:Int):=by
   unfold Fits Stands
   rw [row_len,Int.toNat_natCast]
   have e9:(2:Int)^n=((2^n:Nat):Int):=by simp
   rw [e9]
   omega
  rintro y w' (⟨hno,_⟩|⟨_,rfl,v',hE,hT,hc,hm⟩)
  ·exact absurd hfit hno
  have hS: ∀z,Fp ea v (D t i).2 z→Foot ea v z∨ ∃t i,t<18∧i<cntS X.p t∧(D t i).2.ownBlock=some z:=fun z k=>by
   rcases k with k|k
   ·exact .inl k
   ·exact .inr ⟨t,i,ht,hi,k⟩
  have hok: ∀q∈wayQ 0 1 (bitsOf true n x),q.ok (lnS X.p t):=wayQ_ok1 (n:=n) (by omega) (bitsOf_01 _ _ _) (by rw [bitsOf_len];omega)
  have e0:numQ true 0 (n:Int) (x:Int)=wayQ 0 1 (bitsOf true n x):=by unfold numQ;simp
  rw [e0,enc_bt hlo hi _ 1 (codeL X.c l) (bitsOf_01 _ _ _) hok]at hE hT
  have e1:codeL X.c (l++wayB (unS t i 0).1 n x)=codeL (codeL X.c l) (btL (unS t i 0).1 1 (bitsOf true n x)):=by rw [codeL_app,way_bt]
  have hle:Le w' B a D V wa vw ea v' ⟨X.p,X.n,X.bs,X.s,codeL X.c (l++wayB (unS t i 0).1 n x)⟩:=by
   rw [e1]
   exact h2.le.turn hc t i ht hi (fun z k=>k) hE hT (fun t' i' ht' hi' hne=>btL_other hlo hi (by omega) hi' hne _ 1 _ hok) hm
  exact⟨rfl,⟨v',h2.go hc hle hS hm⟩,foot_off h2.le hS hc hbx2⟩
 clear h1 h2 hbx hbx2 cA hin hp8 hx hn2 hln
 go_enter Tryz.func204,Tryz.ntmps204
 go_wp2_with fail
 refine Calls.mono HBT.out ?_
 rintro z w' ⟨rfl,h3⟩
 go_wp2
 first|go_end0|(refine bodyPost_ret (results_none rfl _ _ _) rfl ?_)
 exact⟨rfl,h3⟩
set_option maxHeartbeats 4000000 in
set_option maxRecDepth 100000 in
theorem pcdirect {w0:World}{B a:Nat}{D:Dir}{V:Lst}{wa:Nat}{vw:Value}{ea:Nat}{ve:Value}{X:Lz}(hI:Lz14.I X)(hk:X.c.e.k+104≤140737488355328)(g:Nat)(cs:Array Value)(l:List Bt)(w:World)(x n:Nat)(h:Ib (IcE w0 B a D V wa vw ea ve X) g cs l w)(hx:x≤4294967295)(hn:n≤26)(hl:l.length+n≤87):Calls Tryz.prog 206 #[.agg #[.pointer (some ⟨ea,0,none⟩)],.int .i64 (x:Int),.int .i64 (n:Int)] w fun e w'=>e= .returned (.tuple #[])∧Ib (IcE w0 B a D V wa vw ea ve X) g cs (l++rawB x n) w':=by
 obtain⟨⟨v,h1⟩,hbx⟩:=h
 have cA:=chg_one w (.cells #[.pointer (some ⟨ea,0,none⟩)] 98)
 have h2:=h1.new cA
 have hbx2:=blk_keep hbx cA (fun f=>f)
 have hbc:(w.alloc (.cells #[.pointer (some ⟨ea,0,none⟩)] 98)).cell? ⟨w.heap.size,0,none⟩=some (.pointer (some ⟨ea,0,none⟩)):=by rw [cell_of_row _ _ _ _ _ _ (heap_alloc_last w _)];rfl
 have hin:=codeL_in l hI.c
 have HBT:Hid (Calls Tryz.prog 210 #[.pointer (some ⟨ea,0,none⟩),.int .u32 (x:Int),.int .i64 (n:Int)] (w.alloc (.cells #[.pointer (some ⟨ea,0,none⟩)] 98)) fun y w'=>y= .returned (.int .i64 0)∧Ib (IcE w0 B a D V wa vw ea ve X) g cs (l++rawB x n) w'):=by
  have hlc:=len_codeL X l
  have hdk:=direct_k_le x n (codeL X.c l).e
  refine(direct_in B ea v (codeL X.c l).e x n _ h2.le.enc hin.ok hx (by omega) (by omega) (Nat.le_trans h2.hB.1 h2.ch.size)).mono ?_
  rintro y w' ⟨rfl,v',hE,hc,hm⟩
  have hS: ∀z,Foot ea v z→Foot ea v z∨ ∃t i,t<18∧i<cntS X.p t∧(D t i).2.ownBlock=some z:=fun z k=> .inl k
  have e1:codeL X.c (l++rawB x n)=⟨(codeL X.c l).pr,direct x n (codeL X.c l).e⟩:=by rw [codeL_app,direct_raw]
  have hs:=(h2.le.pt.fm 2 (by omega)).st 0 (by show 0<1;omega)
  have hle:Le w' B a D V wa vw ea v' ⟨X.p,X.n,X.bs,X.s,codeL X.c (l++rawB x n)⟩:=by
   rw [e1]
   refine h2.le.turn hc 2 0 (by omega) (by show 0<1;omega) (fun z k=> .inl k) hE ?_ (fun t' i' ht' hi' hne=>rfl) hm
   refine hs.keep hc (fun k=> ?_) (fun z e k=> ?_)
   ·rcases k with e|k
    ·obtain⟨cs',hb⟩:=h2.le.enc.lt3.2.1
     have hs':=hs.blk
     rw [e]at hs'
     exact ty_ne hs' hb (by decide)
    ·obtain⟨cs',hb⟩:=(h2.le.enc.lt3.2.2 _ k).2
     exact ty_ne hs.blk hb (by decide)
   ·obtain⟨c3,hb3⟩:=owns_blk hs.own e
    rcases k with e|k
    ·obtain⟨cs',hb⟩:=h2.le.enc.lt3.2.1
     rw [e]at hb3
     exact ty_ne hb3 hb (by decide)
    ·obtain⟨cs',hb⟩:=(h2.le.enc.lt3.2.2 _ k).2
     exact ty_ne hb3 hb (by decide)
  exact⟨rfl,⟨v',h2.go hc hle hS hm⟩,foot_off h2.le hS hc hbx2⟩
 have hwr:IntKind.u32.wrap (x:Int)=(x:Int):=by simp [IntKind.wrap,IntKind.signed,IntKind.bits];omega
 have hxi:(x:Int)≤4294967295:=by omega
 clear h1 h2 hbx hbx2 cA hin
 go_enter Tryz.func206,Tryz.ntmps206
 go_wp2_with fail
 refine Calls.mono HBT.out ?_
 rintro z w' ⟨rfl,h3⟩
 go_wp2
 first|go_end0|(refine bodyPost_ret (results_none rfl _ _ _) rfl ?_)
 exact⟨rfl,h3⟩
end Go.Proofs.YthideplpcnhncaaGreatDoor
namespace Go.Proofs.YthideplpcnhncaaGreatDoor
open Go.RowKit
open St12 Sy13 Lz14
set_option linter.unusedVariables false
set_option linter.unusedSimpArgs false
structure IkE (w0:World) (B a:Nat) (D:Dir) (V:Lst) (wa:Nat) (vw:Value) (ea:Nat) (ve:Value) (X:Lz) (bk:Nat) (l:List Bt) (w:World):Prop where
 le:Le w B a D V wa vw ea ve X
 bx:w.heap[bk]?=some (.cells #[.int .i64 (costL X.c.pr l)] 103 (0,0))
 ch:Chg (fun z=>z=bk) w0 w
 tb:Tab w
 hB:0<bk
theorem IkE.new {w0 w w':World}{B a:Nat}{D:Dir}{V:Lst}{wa:Nat}{vw:Value}{ea:Nat}{ve:Value}{X:Lz}{bk:Nat}{l:List Bt}(h:IkE w0 B a D V wa vw ea ve X bk l w)(hc:Chg (fun _=>False) w w'):IkE w0 B a D V wa vw ea ve X bk l w':=⟨h.le.new hc,blk_keep h.bx hc (fun f=>f),h.ch.trans hc (fun _ f=>f.elim),tab_keep h.tb hc,h.hB⟩
theorem IkE.put {w0 w:World}{B a:Nat}{D:Dir}{V:Lst}{wa:Nat}{vw:Value}{ea:Nat}{ve:Value}{X:Lz}{bk:Nat}{l:List Bt}(h:IkE w0 B a D V wa vw ea ve X bk l w)(l':List Bt)(q:Int)(hq:q=costL X.c.pr (l++l')):IkE w0 B a D V wa vw ea ve X bk (l++l') (w.setCell ⟨bk,0,none⟩ (.int .i64 q))∧ ∀(g:Nat) (cs:Array Value),w.heap[g]?=some (.cells cs 34 (0,0))→(w.setCell ⟨bk,0,none⟩ (.int .i64 q)).heap[g]?=some (.cells cs 34 (0,0)):=by
 subst hq
 have c1:Chg (fun z=>z=bk) w (w.setCell ⟨bk,0,none⟩ (.int .i64 (costL X.c.pr (l++l')))):=(Chg.refl (fun z=>z=bk) w).setCell (p:=⟨bk,0,none⟩) (.inl rfl) _
 refine⟨⟨h.le.keep c1 (fun z k e=> ?_),blk_setk (l:=[.int .i64 (costL X.c.pr l)]) h.bx 0 _,h.ch.trans c1 (fun z e=> .inl e),tab_lt h.tb c1 (fun e=>by have:=h.hB;omega),h.hB⟩,fun g cs hg=>blk_keep hg c1 (fun e=> ?_)⟩
 ·subst e
  exact h.le.off h.bx (by decide) (by decide) (by decide) (by decide) (by decide) (by decide) (by decide) k
 ·subst e
  exact ty_ne hg h.bx (by decide)
theorem btL_len (nm:Nm): ∀(l:List Nat) (m:Nat),(btL nm m l).length=l.length
 | [],_=>rfl
 |b::l,m=>by simp [btL,btL_len nm l]
theorem costL_hi {c:Cd}(h:Lz14.In c): ∀l:List Bt,0≤costL c.pr l∧costL c.pr l≤103*(l.length:Int)
 | []=>by simp [costL]
 |t::l=>by
  have h1:=cost1_in h t
  have h2:=costL_hi h l
  simp only [costL,List.length_cons]
  omega
set_option maxHeartbeats 4000000 in
set_option maxRecDepth 100000 in
theorem pkbit {w0:World}{B a:Nat}{D:Dir}{V:Lst}{wa:Nat}{vw:Value}{ea:Nat}{ve:Value}{X:Lz}{bk:Nat}(hI:Lz14.I X)(g:Nat)(cs:Array Value)(l:List Bt)(w:World)(t i j b:Nat)(h:Ib (IkE w0 B a D V wa vw ea ve X bk) g cs l w)(ht:t<18)(hi:i<cntS X.p t)(hj:j<lnS X.p t)(hb:b≤1)(hl:l.length+1≤87):Calls Tryz.prog 224 #[.pointer (some ⟨bk,0,none⟩),.pointer (some ⟨(D t i).1,0,none⟩),.int .i64 (j:Int),.int .i64 (b:Int)] w fun e w'=>e= .returned (.tuple #[])∧Ib (IkE w0 B a D V wa vw ea ve X bk) g cs (l++[⟨some (unS t i j).1,(unS t i j).2,b⟩]) w':=by
 obtain⟨h1,hbx⟩:=h
 have hjl:j<(rowS X.p X.c.pr t i).length:=by rw [row_len];exact hj
 obtain⟨p,hp⟩: ∃p,X.c.pr (unS t i j).1 (unS t i j).2=p:=⟨_,rfl⟩
 have HAT:Hid (Calls Tryz.prog 159 #[.pointer (some ⟨(D t i).1,0,none⟩),.int .i64 (j:Int)] w fun e w'=>e= .returned (.tuple #[.int .i64 p,.int .i64 0])∧w=w'):=by
  have h9:=at_in B (D t i).1 (D t i).2 (rowS X.p X.c.pr t i) j w ((h1.le.pt.fm t ht).st i hi) (row_in hI.c.pr t i).inn hjl
  rw [row_at hjl,hp]at h9
  exact h9
 have hpr:=hI.c.pr (unS t i j).1 (unS t i j).2
 rw [hp]at hpr
 obtain⟨C1,hC1⟩: ∃C1,Prob.co p (b:Int)=C1:=⟨_,rfl⟩
 have HCO:Hid (∀u,Calls Tryz.prog 228 #[.int .i64 p,.int .i64 (b:Int)] u fun e w'=>e= .returned (.int .i64 C1)∧u=w'):=fun u=>by
  have h9:=cost_any p (b:Int) u ⟨by omega,by omega⟩
  rw [hC1]at h9
  exact h9
 obtain⟨C0,hC0⟩: ∃C0,costL X.c.pr l=C0:=⟨_,rfl⟩
 have hb0:=costL_hi hI.c l
 have hb1:=cost1_in hI.c ⟨some (unS t i j).1,(unS t i j).2,b⟩
 have e1:cost1 X.c.pr ⟨some (unS t i j).1,(unS t i j).2,b⟩=C1:=by show Prob.co _ _=_;rw [hp,hC1]
 rw [e1]at hb1
 rw [hC0]at hb0
 have HWR:Hid (IntKind.i64.wrap (C0+C1)=C0+C1):=by show _=_;rw [IntKind.wrap_i64];omega
 have HCL:Hid (C0+C1=costL X.c.pr (l++[⟨some (unS t i j).1,(unS t i j).2,b⟩])):=by
  show _=_
  rw [costL_app,hC0]
  simp only [costL,e1]
  omega
 have hcb:w.cell? ⟨bk,0,none⟩=some (.int .i64 C0):=by rw [cell_of_row _ _ _ _ _ _ h1.bx,hC0];rfl
 have HK1:Hid (IkE w0 B a D V wa vw ea ve X bk l w):=h1
 have HBX:Hid (w.heap[g]?=some (.cells cs 34 (0,0))):=hbx
 have hc0:0≤C0∧C0≤10000:=by omega
 have hc1:1≤C1∧C1≤103:=hb1
 clear h1 hbx hjl hp hpr hC1 hC0 hb0 hb1 e1
 go_enter Tryz.func224,Tryz.ntmps224
 go_wp2_with fail
 refine Calls.mono HAT.out ?_
 rintro z w1 ⟨rfl,rfl⟩
 go_upto_region 1 with fail
 refine wp_region_last (mk:=fun u=> #[_,_,_,_,_,_,_,_,_,_,_,_,_,_,_,_,u 16,u 17,u 18,u 19,u 20,u 21,u 22,u 23,u 24,u 25]) (F:=fun slot vv ww=>(look [(16,.val (.pointer (some ⟨bk,0,none⟩))),(17,.val (.pointer (some ⟨bk,0,none⟩))),(18,.val (.pointer (some ⟨bk,0,none⟩))),(19,.val (.int .i64 C0)),(20,.val (.int .i64 p)),(21,.val (.int .i64 (b:Int))),(22,.val (.int .i64 C1)),(23,.val (.int .i64 (C0+C1))),(24,.val (.pointer (some ⟨bk,0,none⟩))),(25,.val (.pointer (some ⟨bk,0,none⟩)))] slot).holds vv ww) (fun _=>undef) rfl (by kernel_rfl) 10 _ rfl rfl (by kernel_rfl) ?_ (fun _ v w w' hc h=>Fact.stays _ v w w' hc h) ?_ ?_
 ·repeat (refine⟨⟨_,rfl,fun _ _=>rfl⟩,?_⟩)
  exact trivial
 ·refine⟨?_,?_,?_,?_,?_,?_,?_,?_,?_,?_,trivial⟩
  ·intro u w_ hc hd K hK
   clear hd
   go_simp
   exact hK.out _ _ (Chg.refl _ _) rfl
  ·intro u w_ hc hd K hK
   have h16:(Fact.val (.pointer (some ⟨bk,0,none⟩))).holds (u 16) w_:=hd.get 0 (by kernel_rfl)
   simp only [Fact.holds]at h16
   clear hd
   simp only [h16]at hK
   go_simp
   exact hK.out _ _ (Chg.refl _ _) rfl
  ·intro u w_ hc hd K hK
   have h17:(Fact.val (.pointer (some ⟨bk,0,none⟩))).holds (u 17) w_:=hd.get 1 (by kernel_rfl)
   simp only [Fact.holds]at h17
   clear hd
   simp only [h17]at hK
   go_simp
   exact hK.out _ _ (Chg.refl _ _) rfl
  ·intro u w_ hc hd K hK
   have h18:(Fact.val (.pointer (some ⟨bk,0,none⟩))).holds (u 18) w_:=hd.get 2 (by kernel_rfl)
   simp only [Fact.holds]at h18
   clear hd
   simp only [h18]at hK
   have hcell:=cell_chg hcb hc
   go_simp
   exact hK.out _ _ (Chg.refl _ _) rfl
  ·intro u w_ hc hd K hK
   clear hd
   go_simp
   exact hK.out _ _ (Chg.refl _ _) rfl
  ·intro u w_ hc hd K hK
   clear hd
   go_simp
   exact hK.out _ _ (Chg.refl _ _) rfl
  ·intro u w_ hc hd K hK
   have h20:(Fact.val (.int .i64 p)).holds (u 20) w_:=hd.get 4 (by kernel_rfl)
   simp only [Fact.holds]at h20
   have h21:(Fact.val (.int .i64 (b:Int))).holds (u 21) w_:=hd.get 5 (by kernel_rfl)
   simp only [Fact.holds]at h21
   clear hd
   simp only [h20,h21]at hK
   go_simp
   refine Calls.mono (HCO.out w_) ?_
   rintro z w2 ⟨rfl,rfl⟩
   exact hK.out _ _ (Chg.refl _ _) rfl
  ·intro u w_ hc hd K hK
   have h19:(Fact.val (.int .i64 C0)).holds (u 19) w_:=hd.get 3 (by kernel_rfl)
   simp only [Fact.holds]at h19
   have h22:(Fact.val (.int .i64 C1)).holds (u 22) w_:=hd.get 6 (by kernel_rfl)
   simp only [Fact.holds]at h22
   clear hd
   simp only [h19,h22]at hK
   go_simp
   first|exact hK.out _ _ (Chg.refl _ _) rfl|(rw [HWR.out];exact hK.out _ _ (Chg.refl _ _) rfl)
  ·intro u w_ hc hd K hK
   have h16:(Fact.val (.pointer (some ⟨bk,0,none⟩))).holds (u 16) w_:=hd.get 0 (by kernel_rfl)
   simp only [Fact.holds]at h16
   clear hd
   simp only [h16]at hK
   go_simp
   exact hK.out _ _ (Chg.refl _ _) rfl
  ·intro u w_ hc hd K hK
   have h24:(Fact.val (.pointer (some ⟨bk,0,none⟩))).holds (u 24) w_:=hd.get 8 (by kernel_rfl)
   simp only [Fact.holds]at h24
   clear hd
   simp only [h24]at hK
   go_simp
   exact hK.out _ _ (Chg.refl _ _) rfl
 ·intro u w_ hc hA K hK
  have e23:u 23= .int .i64 (C0+C1):=hA.at 23 (by kernel_rfl)
  have e25:u 25= .pointer (some ⟨bk,0,none⟩):=hA.at 25 (by kernel_rfl)
  have hk2:=HK1.out.new hc
  have hfz:w_.frozen? ⟨bk,0,none⟩=false:=by simp [World.frozen?,hk2.bx]
  have hcc:=cell_chg hcb hc
  have HPT:Hid _:=hk2.put [⟨some (unS t i j).1,(unS t i j).2,b⟩] (C0+C1) HCL.out
  have HB2:Hid _:=blk_keep HBX.out hc (fun f=>f)
  clear hA hc hk2 HK1 HBX
  simp only [e23,e25]at hK⊢
  go_simp
  refine hK.out _ _ ?_
  clear hK
  go_wp2
  first|go_end0|(refine bodyPost_ret (results_none rfl _ _ _) rfl ?_)
  exact⟨rfl,HPT.out.1,HPT.out.2 g cs HB2.out⟩
set_option maxHeartbeats 4000000 in
set_option maxRecDepth 100000 in
theorem pktree {w0:World}{B a:Nat}{D:Dir}{V:Lst}{wa:Nat}{vw:Value}{ea:Nat}{ve:Value}{X:Lz}{bk:Nat}(hI:Lz14.I X)(g:Nat)(cs:Array Value)(l:List Bt)(w:World)(t i n x:Nat)(h:Ib (IkE w0 B a D V wa vw ea ve X bk) g cs l w)(hlo:Lz14.lone t)(hi:i<cntS X.p t)(hn:n≤8)(hn2:2^n≤lnS X.p t)(hx:x<2^n)(hl:l.length+n≤87):Calls Tryz.prog 226 #[.pointer (some ⟨bk,0,none⟩),.pointer (some ⟨(D t i).1,0,none⟩),.int .i64 (n:Int),.int .i64 (x:Int)] w fun e w'=>e= .returned (.tuple #[])∧Ib (IkE w0 B a D V wa vw ea ve X bk) g cs (l++treeB (unS t i 0).1 n x) w':=by
 obtain⟨h1,hbx⟩:=h
 have ht:t<18:=by have:=lone_le hlo;omega
 have hp8:=pow_le8 hn
 have hln:=ln_le hI.al t
 obtain⟨C1,hC1⟩: ∃C1,costL X.c.pr (treeB (unS t i 0).1 n x)=C1:=⟨_,rfl⟩
 have HCO:Hid (Calls Tryz.prog 229 #[.pointer (some ⟨(D t i).1,0,none⟩),.int .i64 0,.int .i64 (n:Int),.int .i64 (x:Int)] w fun e w'=>e= .returned (.tuple #[.int .i64 C1,.int .i64 0])∧Chg (fun _=>False) w w'):=by
  refine(tree_put.cost false B (D t i).1 (D t i).2 (rowS X.p X.c.pr t i) 0 (n:Int) (x:Int) w ((h1.le.pt.fm t ht).st i hi) (row_in hI.c.pr t i) (by rw [row_len];omega) ⟨by omega,by omega⟩ ⟨by omega,by omega⟩ ⟨by omega,by omega⟩).mono ?_
  have hfit:Fits (rowS X.p X.c.pr t i).length 0 (n:Int) (x:Int):=by
   unfold Fits Stands
   rw [row_len,Int.toNat_natCast]
   have e9:(2:Int)^n=((2^n:Nat):Int):=by simp
   rw [e9]
   omega
  rintro y w' (⟨hno,_⟩|⟨_,rfl,hc⟩)
  ·exact absurd hfit hno
  have hok: ∀q∈wayQ 0 1 (bitsOf false n x),q.ok (lnS X.p t):=wayQ_ok1 (n:=n) (by omega) (bitsOf_01 _ _ _) (by rw [bitsOf_len];omega)
  have e0:=cost_bt (p:=X.p) (a:=i) hlo X.c.pr (bitsOf false n x) 1 hok
  refine⟨?_,hc⟩
  simp only [Int.toNat_natCast,show(0:Int).toNat=0 from rfl]
  rw [e0,←tree_bt,hC1]
 have hb0:=costL_hi hI.c l
 have hb1:=costL_hi hI.c (treeB (unS t i 0).1 n x)
 have hlen:(treeB (unS t i 0).1 n x).length=n:=by exact treeB_len' _ _ _
 rw [hC1,hlen]at hb1
 obtain⟨C0,hC0⟩: ∃C0,costL X.c.pr l=C0:=⟨_,rfl⟩
 rw [hC0]at hb0
 have HCL:Hid (C0+C1=costL X.c.pr (l++treeB (unS t i 0).1 n x)):=by
  show _=_
  rw [costL_app,hC0,hC1]
 have hcb:w.cell? ⟨bk,0,none⟩=some (.int .i64 C0):=by rw [cell_of_row _ _ _ _ _ _ h1.bx,hC0];rfl
 have HK1:Hid (IkE w0 B a D V wa vw ea ve X bk l w):=h1
 have HBX:Hid (w.heap[g]?=some (.cells cs 34 (0,0))):=hbx
 have hc0:0≤C0∧C0≤10000:=by omega
 have hc1:0≤C1∧C1≤10000:=by omega
 clear h1 hbx hC1 hC0 hb0 hb1 hlen hp8 hx hn2 hln
 go_enter Tryz.func226,Tryz.ntmps226
 go_wp2_with fail
 refine Calls.mono HCO.out ?_
 rintro z w1 ⟨rfl,c1⟩
 have hk2:=HK1.out.new c1
 have hfz:w1.frozen? ⟨bk,0,none⟩=false:=by simp [World.frozen?,hk2.bx]
 have hcc:=cell_chg hcb c1
 have HPT:Hid _:=hk2.put (treeB (unS t i 0).1 n x) (C0+C1) HCL.out
 have HB2:Hid _:=blk_keep HBX.out c1 (fun f=>f)
 clear c1 hk2 HK1 HBX hcb HCO
 go_wp2
 first|go_end0|(refine bodyPost_ret (results_none rfl _ _ _) rfl ?_)
 exact⟨rfl,HPT.out.1,HPT.out.2 g cs HB2.out⟩
set_option maxHeartbeats 4000000 in
set_option maxRecDepth 100000 in
theorem pkback {w0:World}{B a:Nat}{D:Dir}{V:Lst}{wa:Nat}{vw:Value}{ea:Nat}{ve:Value}{X:Lz}{bk:Nat}(hI:Lz14.I X)(g:Nat)(cs:Array Value)(l:List Bt)(w:World)(t i n x:Nat)(h:Ib (IkE w0 B a D V wa vw ea ve X bk) g cs l w)(hlo:Lz14.lone t)(hi:i<cntS X.p t)(hn:n≤8)(hn2:2^n≤lnS X.p t)(hx:x<2^n)(hl:l.length+n≤87):Calls Tryz.prog 223 #[.pointer (some ⟨bk,0,none⟩),.pointer (some ⟨(D t i).1,0,none⟩),.int .i64 (n:Int),.int .i64 (x:Int)] w fun e w'=>e= .returned (.tuple #[])∧Ib (IkE w0 B a D V wa vw ea ve X bk) g cs (l++wayB (unS t i 0).1 n x) w':=by
 obtain⟨h1,hbx⟩:=h
 have ht:t<18:=by have:=lone_le hlo;omega
 have hp8:=pow_le8 hn
 have hln:=ln_le hI.al t
 obtain⟨C1,hC1⟩: ∃C1,costL X.c.pr (wayB (unS t i 0).1 n x)=C1:=⟨_,rfl⟩
 have HCO:Hid (Calls Tryz.prog 227 #[.pointer (some ⟨(D t i).1,0,none⟩),.int .i64 0,.int .i64 (n:Int),.int .i64 (x:Int)] w fun e w'=>e= .returned (.tuple #[.int .i64 C1,.int .i64 0])∧Chg (fun _=>False) w w'):=by
  refine(tree_put.cost true B (D t i).1 (D t i).2 (rowS X.p X.c.pr t i) 0 (n:Int) (x:Int) w ((h1.le.pt.fm t ht).st i hi) (row_in hI.c.pr t i) (by rw [row_len];omega) ⟨by omega,by omega⟩ ⟨by omega,by omega⟩ ⟨by omega,by omega⟩).mono ?_
  have hfit:Fits (rowS X.p X.c.pr t i).length 0 (n:Int) (x:Int):=by
   unfold Fits Stands
   rw [row_len,Int.toNat_natCast]
   have e9:(2:Int)^n=((2^n:Nat):Int):=by simp
   rw [e9]
   omega
  rintro y w' (⟨hno,_⟩|⟨_,rfl,hc⟩)
  ·exact absurd hfit hno
  have hok: ∀q∈wayQ 0 1 (bitsOf true n x),q.ok (lnS X.p t):=wayQ_ok1 (n:=n) (by omega) (bitsOf_01 _ _ _) (by rw [bitsOf_len];omega)
  have e0:=cost_bt (p:=X.p) (a:=i) hlo X.c.pr (bitsOf true n x) 1 hok
  refine⟨?_,hc⟩
  simp only [Int.toNat_natCast,show(0:Int).toNat=0 from rfl]
  rw [e0,←way_bt,hC1]
 have hb0:=costL_hi hI.c l
 have hb1:=costL_hi hI.c (wayB (unS t i 0).1 n x)
 have hlen:(wayB (unS t i 0).1 n x).length=n:=by rw [way_bt,btL_len,bitsOf_len]
 rw [hC1,hlen]at hb1
 obtain⟨C0,hC0⟩: ∃C0,costL X.c.pr l=C0:=⟨_,rfl⟩
 rw [hC0]at hb0
 have HCL:Hid (C0+C1=costL X.c.pr (l++wayB (unS t i 0).1 n x)):=by
  show _=_
  rw [costL_app,hC0,hC1]
 have hcb:w.cell? ⟨bk,0,none⟩=some (.int .i64 C0):=by rw [cell_of_row _ _ _ _ _ _ h1.bx,hC0];rfl
 have HK1:Hid (IkE w0 B a D V wa vw ea ve X bk l w):=h1
 have HBX:Hid (w.heap[g]?=some (.cells cs 34 (0,0))):=hbx
 have hc0:0≤C0∧C0≤10000:=by omega
 have hc1:0≤C1∧C1≤10000:=by omega
 clear h1 hbx hC1 hC0 hb0 hb1 hlen hp8 hx hn2 hln
 go_enter Tryz.func223,Tryz.ntmps223
 go_wp2_with fail
 refine Calls.mono HCO.out ?_
 rintro z w1 ⟨rfl,c1⟩
 have hk2:=HK1.out.new c1
 have hfz:w1.frozen? ⟨bk,0,none⟩=false:=by simp [World.frozen?,hk2.bx]
 have hcc:=cell_chg hcb c1
 have HPT:Hid _:=hk2.put (wayB (unS t i 0).1 n x) (C0+C1) HCL.out
 have HB2:Hid _:=blk_keep HBX.out c1 (fun f=>f)
 clear c1 hk2 HK1 HBX hcb HCO
 go_wp2
 first|go_end0|(refine bodyPost_ret (results_none rfl _ _ _) rfl ?_)
 exact⟨rfl,HPT.out.1,HPT.out.2 g cs HB2.out⟩
set_option maxHeartbeats 4000000 in
set_option maxRecDepth 100000 in
theorem pkdirect {w0:World}{B a:Nat}{D:Dir}{V:Lst}{wa:Nat}{vw:Value}{ea:Nat}{ve:Value}{X:Lz}{bk:Nat}(hI:Lz14.I X)(g:Nat)(cs:Array Value)(l:List Bt)(w:World)(x n:Nat)(h:Ib (IkE w0 B a D V wa vw ea ve X bk) g cs l w)(hx:x≤4294967295)(hn:n≤26)(hl:l.length+n≤87):Calls Tryz.prog 225 #[.pointer (some ⟨bk,0,none⟩),.int .i64 (x:Int),.int .i64 (n:Int)] w fun e w'=>e= .returned (.tuple #[])∧Ib (IkE w0 B a D V wa vw ea ve X bk) g cs (l++rawB x n) w':=by
 obtain⟨h1,hbx⟩:=h
 have hb0:=costL_hi hI.c l
 obtain⟨C0,hC0⟩: ∃C0,costL X.c.pr l=C0:=⟨_,rfl⟩
 rw [hC0]at hb0
 have HCL:Hid (C0+16*(n:Int)=costL X.c.pr (l++rawB x n)):=by
  show _=_
  rw [costL_app,hC0,cost_raw]
 have hcb:w.cell? ⟨bk,0,none⟩=some (.int .i64 C0):=by rw [cell_of_row _ _ _ _ _ _ h1.bx,hC0];rfl
 have hfz:w.frozen? ⟨bk,0,none⟩=false:=by simp [World.frozen?,h1.bx]
 have HPT:Hid _:=h1.put (rawB x n) (C0+16*(n:Int)) HCL.out
 have HBX:Hid (w.heap[g]?=some (.cells cs 34 (0,0))):=hbx
 have hc0:0≤C0∧C0≤10000:=by omega
 clear h1 hbx hC0 hb0
 go_enter Tryz.func225,Tryz.ntmps225
 go_wp2
 first|go_end0|(refine bodyPost_ret (results_none rfl _ _ _) rfl ?_)
 exact⟨rfl,HPT.out.1,HPT.out.2 g cs HBX.out⟩
theorem mPCbit (x:Addr)(w:World):Sem.run Tryz.prog (method 366 98 (.agg #[.pointer (some x)]) "pith/lzenc.bit") w= .ok (205,(.agg #[.pointer (some x)])) w:=by kernel_rfl
theorem nPCbit (x:Addr)(w:World):Sem.run Tryz.prog (nilAhead 366 98 (.agg #[.pointer (some x)]) "pith/lzenc.bit") w= .ok (some false) w:=by kernel_rfl
theorem ePCbit (args:Array Value)(w:World):(callFunc 205 args).run Tryz.prog w= .ok (.enter 205 args) w:=by kernel_rfl
theorem mPCtree (x:Addr)(w:World):Sem.run Tryz.prog (method 366 98 (.agg #[.pointer (some x)]) "pith/lzenc.tree") w= .ok (207,(.agg #[.pointer (some x)])) w:=by kernel_rfl
theorem nPCtree (x:Addr)(w:World):Sem.run Tryz.prog (nilAhead 366 98 (.agg #[.pointer (some x)]) "pith/lzenc.tree") w= .ok (some false) w:=by kernel_rfl
theorem ePCtree (args:Array Value)(w:World):(callFunc 207 args).run Tryz.prog w= .ok (.enter 207 args) w:=by kernel_rfl
theorem mPCback (x:Addr)(w:World):Sem.run Tryz.prog (method 366 98 (.agg #[.pointer (some x)]) "pith/lzenc.back") w= .ok (204,(.agg #[.pointer (some x)])) w:=by kernel_rfl
theorem nPCback (x:Addr)(w:World):Sem.run Tryz.prog (nilAhead 366 98 (.agg #[.pointer (some x)]) "pith/lzenc.back") w= .ok (some false) w:=by kernel_rfl
theorem ePCback (args:Array Value)(w:World):(callFunc 204 args).run Tryz.prog w= .ok (.enter 204 args) w:=by kernel_rfl
theorem mPCdirect (x:Addr)(w:World):Sem.run Tryz.prog (method 366 98 (.agg #[.pointer (some x)]) "pith/lzenc.direct") w= .ok (206,(.agg #[.pointer (some x)])) w:=by kernel_rfl
theorem ePCdirect (args:Array Value)(w:World):(callFunc 206 args).run Tryz.prog w= .ok (.enter 206 args) w:=by kernel_rfl
theorem mPKbit (x:Addr)(w:World):Sem.run Tryz.prog (method 366 104 (.pointer (some x)) "pith/lzenc.bit") w= .ok (224,(.pointer (some x))) w:=by kernel_rfl
theorem nPKbit (x:Addr)(w:World):Sem.run Tryz.prog (nilAhead 366 104 (.pointer (some x)) "pith/lzenc.bit") w= .ok (some false) w:=by kernel_rfl
theorem ePKbit (args:Array Value)(w:World):(callFunc 224 args).run Tryz.prog w= .ok (.enter 224 args) w:=by kernel_rfl
theorem mPKtree (x:Addr)(w:World):Sem.run Tryz.prog (method 366 104 (.pointer (some x)) "pith/lzenc.tree") w= .ok (226,(.pointer (some x))) w:=by kernel_rfl
theorem nPKtree (x:Addr)(w:World):Sem.run Tryz.prog (nilAhead 366 104 (.pointer (some x)) "pith/lzenc.tree") w= .ok (some false) w:=by kernel_rfl
theorem ePKtree (args:Array Value)(w:World):(callFunc 226 args).run Tryz.prog w= .ok (.enter 226 args) w:=by kernel_rfl
theorem mPKback (x:Addr)(w:World):Sem.run Tryz.prog (method 366 104 (.pointer (some x)) "pith/lzenc.back") w= .ok (223,(.pointer (some x))) w:=by kernel_rfl
theorem nPKback (x:Addr)(w:World):Sem.run Tryz.prog (nilAhead 366 104 (.pointer (some x)) "pith/lzenc.back") w= .ok (some false) w:=by kernel_rfl
theorem ePKback (args:Array Value)(w:World):(callFunc 223 args).run Tryz.prog w= .ok (.enter 223 args) w:=by kernel_rfl
theorem mPKdirect (x:Addr)(w:World):Sem.run Tryz.prog (method 366 104 (.pointer (some x)) "pith/lzenc.direct") w= .ok (225,(.pointer (some x))) w:=by kernel_rfl
theorem ePKdirect (args:Array Value)(w:World):(callFunc 225 args).run Tryz.prog w= .ok (.enter 225 args) w:=by kernel_rfl
theorem penC {w0:World}{B a:Nat}{D:Dir}{V:Lst}{wa:Nat}{vw:Value}{ea:Nat}{ve:Value}{X:Lz}(hI:Lz14.I X)(hk:X.c.e.k+104≤140737488355328)(g:Nat)(cs:Array Value):PenS 98 (.agg #[.pointer (some ⟨ea,0,none⟩)]) 205 207 204 206 B a D V wa vw ea X (Ib (IcE w0 B a D V wa vw ea ve X) g cs)where
 nb:=nPCbit _
 nt:=nPCtree _
 nk:=nPCback _
 mb:=mPCbit _
 mt:=mPCtree _
 mkk:=mPCback _
 md:=mPCdirect _
 eb:=ePCbit
 et:=ePCtree
 ek:=ePCback
 ed:=ePCdirect
 le:=fun {l w} h=>by obtain⟨⟨v,h1⟩,_⟩:=h;exact⟨v,_,h1.le⟩
 tab:=fun {l w} h=>by obtain⟨⟨v,h1⟩,_⟩:=h;exact h1.tb
 new:=fun {l w w'} h hc=>by obtain⟨⟨v,h1⟩,h2⟩:=h;exact⟨⟨v,h1.new hc⟩,blk_keep h2 hc (fun f=>f)⟩
 bit:=fun l w t i j b=>pcbit hI hk g cs l w t i j b
 tree:=fun l w t i n v=>pctree hI hk g cs l w t i n v
 back:=fun l w t i n v=>pcback hI hk g cs l w t i n v
 direct:=fun l w x n=>pcdirect hI hk g cs l w x n
theorem penK {w0:World}{B a:Nat}{D:Dir}{V:Lst}{wa:Nat}{vw:Value}{ea:Nat}{ve:Value}{X:Lz}{bk:Nat}(hI:Lz14.I X)(g:Nat)(cs:Array Value):PenS 104 (.pointer (some ⟨bk,0,none⟩)) 224 226 223 225 B a D V wa vw ea X (Ib (IkE w0 B a D V wa vw ea ve X bk) g cs)where
 nb:=nPKbit _
 nt:=nPKtree _
 nk:=nPKback _
 mb:=mPKbit _
 mt:=mPKtree _
 mkk:=mPKback _
 md:=mPKdirect _
 eb:=ePKbit
 et:=ePKtree
 ek:=ePKback
 ed:=ePKdirect
 le:=fun {l w} h=>⟨ve,X.c,h.1.le⟩
 tab:=fun {l w} h=>h.1.tb
 new:=fun {l w w'} h hc=>⟨h.1.new hc,blk_keep h.2 hc (fun f=>f)⟩
 bit:=fun l w t i j b=>pkbit hI g cs l w t i j b
 tree:=fun l w t i n v=>pktree hI g cs l w t i n v
 back:=fun l w t i n v=>pkback hI g cs l w t i n v
 direct:=fun l w x n=>pkdirect hI g cs l w x n
end Go.Proofs.YthideplpcnhncaaGreatDoor
namespace Go.Proofs.YthideplpcnhncaaGreatDoor
open Go.RowKit
open St12 Sy13
set_option linter.unusedVariables false
set_option linter.unusedSimpArgs false
structure WLike (Wn:World→Nat→Nat→Value→Nat→List Nat→Prop) (t:TypeId):Prop where
 lt: ∀ {w B a v n bs},Wn w B a v n bs→ ∀z,Foot a v z→B≤z∧z<w.heap.size
 blk: ∀ {w B a v n bs},Wn w B a v n bs→ ∃cs,w.heap[a]?=some (.cells cs t (0,0))
 ring: ∀ {w B a v n bs},Wn w B a v n bs→ ∀g,v.ownBlock=some g→ ∃cs,w.heap[g]?=some (.cells cs 5 (0,0))
 keep: ∀ {w w' B a v n bs} {S:Nat→Prop},Wn w B a v n bs→Chg S w w'→(∀z,Foot a v z→ ¬S z)→Wn w' B a v n bs
theorem WinSpec.like {Win:World→Nat→Nat→Value→Nat→List Nat→Prop}(S:WinSpec Win):WLike Win 137:=⟨S.lt,S.blk,S.ring,S.keep⟩
variable {Wn:World→Nat→Nat→Value→Nat→List Nat→Prop} {t:TypeId}
theorem WLike.off (S:WLike Wn t){w:World}{B a:Nat}{v:Value}{n:Nat}{bs:List Nat}(h:Wn w B a v n bs){b:Nat}{cs:Array Value}{t':TypeId}{fr:Nat×Nat}(hb:w.heap[b]?=some (.cells cs t' fr))(h1:t'≠t)(h2:t'≠5): ¬Foot a v b:=by
 rintro(e|e)
 ·subst e
  obtain⟨c,hc⟩:=S.blk h
  rw [hb]at hc
  simp only [Option.some.injEq,Obj.cells.injEq]at hc
  exact h1 hc.2.1
 ·obtain⟨c,hc⟩:=S.ring h b e
  rw [hb]at hc
  simp only [Option.some.injEq,Obj.cells.injEq]at hc
  exact h2 hc.2.1
theorem own_off {w:World}{B:Nat}{v:Value}{m:Nat}{xs:List Value}(h:w.ownsRow B 5 1 v m xs){b:Nat}{cs:Array Value}{t':TypeId}{fr:Nat×Nat}(hb:w.heap[b]?=some (.cells cs t' fr))(h2:t'≠5): ∀g,v.ownBlock=some g→ ¬g=b:=fun g e hg=>by
 subst hg
 obtain⟨c,hc⟩:=owns_blk h e
 rw [hb]at hc
 simp only [Option.some.injEq,Obj.cells.injEq]at hc
 exact h2 hc.2.1
structure Made (Wn:World→Nat→Nat→Value→Nat→List Nat→Prop) (B N a n:Nat) (bs' xs:List Nat) (ov v':Value) (w:World):Prop where
 win:Wn w B a v' n bs'
 out:w.ownsRow N 5 1 ov xs.length (ins .u8 (nums xs))
 apart: ∀g,ov.ownBlock=some g→ ¬Foot a v' g
theorem Made.new (S:WLike Wn t){B N a n:Nat}{bs' xs:List Nat}{ov v':Value}{w w':World}(h:Made Wn B N a n bs' xs ov v' w)(hc:Chg (fun _=>False) w w'):Made Wn B N a n bs' xs ov v' w':=⟨S.keep h.win hc (fun _ _ f=>f),ownsRow_keep h.out hc (fun _ _ f=>f),h.apart⟩
theorem Made.off (S:WLike Wn t){B N a n:Nat}{bs' xs:List Nat}{ov v':Value}{w w':World}(h:Made Wn B N a n bs' xs ov v' w){b:Nat}{cs:Array Value}{t':TypeId}{fr:Nat×Nat}(hb:w.heap[b]?=some (.cells cs t' fr))(h1:t'≠t)(h2:t'≠5)(hc:Chg (fun z=>z=b) w w'):Made Wn B N a n bs' xs ov v' w':=
 ⟨S.keep h.win hc (fun z f e=>S.off h.win hb h1 h2 (e▸f)),ownsRow_keep h.out hc (fun g e=>own_off h.out hb h2 g e),h.apart⟩
theorem Made.base {B N N' a n:Nat}{bs' xs:List Nat}{ov v':Value}{w:World}(h:Made Wn B N a n bs' xs ov v' w)(hN:N'≤N):Made Wn B N' a n bs' xs ov v' w:=⟨h.win,owns_base h.out hN,h.apart⟩
end Go.Proofs.YthideplpcnhncaaGreatDoor
namespace Go.Proofs.YthideplpcnhncaaGreatDoor
open Go.RowKit
open St12 Sy13
set_option linter.unusedVariables false
set_option linter.unusedSimpArgs false
variable {Tab:World→Prop}
set_option maxHeartbeats 2000000 in
theorem tlen_q (k yb yl yd:Int)(hf:formed ⟨k,yb,yl,yd⟩=0)(w:World):Calls Tryz.prog 127 #[.agg #[.int .i64 k,.int .u8 yb,.int .i64 yl,.int .i64 yd]] w fun e w'=>e= .returned (.int .i64 (sizeA ⟨k,yb,yl,yd⟩))∧Chg (fun _=>False) w w':=by
 have hk:=formed_kind hf
 simp only at hk
 have HE:Hid (sizeA ⟨k,yb,yl,yd⟩=if k=2∨k=3 then yl else 1):=by show _=_;unfold sizeA;rw [if_neg (by simp [hf])]
 clear hf
 rcases hk with rfl|⟨rfl,_,_,_,_⟩|⟨rfl,_,_,_,_⟩|rfl
 ·go_enter Tryz.func127,Tryz.ntmps127
  go_wp2
  go_ret
  exact⟨by rw [HE.out];rfl,chg_one _ _⟩
 ·go_enter Tryz.func127,Tryz.ntmps127
  go_wp2
  go_ret
  exact⟨by rw [HE.out];rfl,chg_one _ _⟩
 ·go_enter Tryz.func127,Tryz.ntmps127
  go_wp2
  go_ret
  exact⟨by rw [HE.out];rfl,chg_one _ _⟩
 ·go_enter Tryz.func127,Tryz.ntmps127
  go_wp2
  go_ret
  exact⟨by rw [HE.out];rfl,chg_one _ _⟩
end Go.Proofs.YthideplpcnhncaaGreatDoor
