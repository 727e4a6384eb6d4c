/- Of no statement by itself: Jt (without blanks and remarks). -/
import Derived.Test.YthideplpcnhncaaGreatDoorJs
namespace Go.Proofs.YthideplpcnhncaaGreatDoor
open Go.RowKit
open St12 Sy13 Lz14
set_option linter.unusedVariables false
set_option linter.unusedSimpArgs false
theorem kind_of {k yb yl yd:Int}(h:formed ⟨k,yb,yl,yd⟩=0):k=1∨(k=2∧2≤yl∧yl≤273∧1≤yd∧yd≤4294967295)∨(k=3∧2≤yl∧yl≤273∧0≤yd∧yd≤3)∨k=4:=by
 have hk:=formed_kind h
 simp only at hk
 rcases hk with hk|⟨h1,h2,h3,h4,h5⟩|⟨h1,h2,h3,h4,h5⟩|hk
 ·exact .inl hk
 ·exact .inr (.inl ⟨h1,by omega,by omega,by omega,by omega⟩)
 ·exact .inr (.inr (.inl ⟨h1,by omega,by omega,by omega,by omega⟩))
 ·exact .inr (.inr (.inr hk))
variable {T:TypeId} {rv:Value} {fb ft fk fd B a:Nat} {D:Dir} {V:Lst} {wa:Nat} {vw:Value} {ea:Nat} {X:Lz} {I:List Bt→World→Prop}
theorem spell_any (PB: ∀g cs,PenS T rv fb ft fk fd B a D V wa vw ea X (Ib I g cs))(hnew: ∀l w w',I l w→Chg (fun _=>False) w w'→I l w')(S:StSpec Tab)(hI:Lz14.I X)(hbl:X.bs.length≤1152921504606846976)(k yb yl yd:Int)(hy:(⟨k,yb,yl,yd⟩:Sym).I)(hf:formed ⟨k,yb,yl,yd⟩=0)(w:World)(h:I [] w):Calls Tryz.prog 37 #[.pointer (some ⟨a,0,none⟩),.iface T rv,.agg #[.int .i64 k,.int .u8 yb,.int .i64 yl,.int .i64 yd]] w fun e w'=>e= .returned (.tuple #[])∧I (symB X ⟨k,yb,yl,yd⟩) w':=by
 have hyb:=hy.y
 simp only at hyb
 rcases kind_of hf with rfl|⟨rfl,h1,h2,h3,h4⟩|⟨rfl,h1,h2,h3,h4⟩|rfl
 ·obtain⟨b,rfl⟩: ∃b:Nat,yb=(b:Int):=⟨yb.toNat,by omega⟩
  exact spell_lit PB hnew S hI hbl w h b (by omega) yl yd
 ·obtain⟨x,rfl⟩: ∃x:Nat,yl=(x:Int)+2:=⟨(yl-2).toNat,by omega⟩
  obtain⟨d,rfl⟩: ∃d:Nat,yd=(d:Int):=⟨yd.toNat,by omega⟩
  exact spell_match PB hnew S hI hbl w h yb x d (by omega) (by omega) (by omega)
 ·obtain⟨x,rfl⟩: ∃x:Nat,yl=(x:Int)+2:=⟨(yl-2).toNat,by omega⟩
  have hyd:yd=0∨yd=1∨yd=2∨yd=3:=by omega
  clear h3 h4
  rcases hyd with rfl|rfl|rfl|rfl
  ·exact spell_rep0 PB hnew S hI hbl w h yb x (by omega)
  ·exact spell_rep1 PB hnew S hI hbl w h yb x (by omega)
  ·exact spell_rep2 PB hnew S hI hbl w h yb x (by omega)
  ·exact spell_rep3 PB hnew S hI hbl w h yb x (by omega)
 ·exact spell_short PB hnew S hI hbl w h yb yl yd
def cutW (w:World)(B:Nat):World:= {w with heap:=w.heap.extract 0 B}
theorem cutW_size {w:World}{B:Nat}(h:B≤w.heap.size):(cutW w B).heap.size=B:=by simp [cutW];omega
theorem cutW_tab {w:World}{B:Nat}(h:Tab w)(h0:0<B)(hB:B≤w.heap.size):Tab (cutW w B):=by
 obtain⟨ty,fr,hb⟩:=h
 refine⟨ty,fr,?_⟩
 show(w.heap.extract 0 B)[0]?=_
 rw [Array.getElem?_extract]
 simp
 exact⟨by omega,hb⟩
theorem keepT {w0 w w':World}{S:Nat→Prop}(h0:Tab w0)(h:Tab w)(hc:Chg S w w')(hS: ∀z,S z→w0.heap.size≤z):Tab w':=by
 obtain⟨ty,fr,hb⟩:=h0
 have h9:=lt_of_blk hb
 exact tab_lt h hc (fun k=>by have:=hS 0 k;omega)
theorem apply_any (S:StSpec Tab){w:World}{B wa n:Nat}{vw:Value}{bs:List Nat}(s:Stt)(k yb yl yd:Int)(hs:s.I)(hy:(⟨k,yb,yl,yd⟩:Sym).I)(hT:Tab w)(h0:0<B)(hB:B≤w.heap.size)(h:Win w B wa vw n bs)(hl:bs.length+273≤1152921504606846976):Calls Tryz.prog 38 #[.pointer (some ⟨wa,0,none⟩),.agg #[.int .i64 s.n,.int .i64 s.a,.int .i64 s.b,.int .i64 s.c,.int .i64 s.d],.agg #[.int .i64 k,.int .u8 yb,.int .i64 yl,.int .i64 yd]] w fun e w'=> ∃ov v',e= .returned (.tuple #[ov,.agg #[.int .i64 (app n bs s ⟨k,yb,yl,yd⟩).2.1.n,.int .i64 (app n bs s ⟨k,yb,yl,yd⟩).2.1.a,.int .i64 (app n bs s ⟨k,yb,yl,yd⟩).2.1.b,.int .i64 (app n bs s ⟨k,yb,yl,yd⟩).2.1.c,.int .i64 (app n bs s ⟨k,yb,yl,yd⟩).2.1.d],.int .i64 (app n bs s ⟨k,yb,yl,yd⟩).2.2])∧Win w' B wa v' n (bs++(app n bs s ⟨k,yb,yl,yd⟩).1)∧Chg (Foot wa vw) w w'∧Moved w vw v':=by
 have hz:=cutW_size hB
 have h9:=tapply_any winSpec S (fun a b c d=>keepT a b c d) (cutW w B) wa vw n bs s.n s.a s.b s.c s.d k yb yl yd hs hy w (cutW_tab hT h0 hB) hT (by rw [hz];exact hB) (by rw [hz];exact h) hl
 rw [hz]at h9
 refine h9.mono ?_
 rintro e w' ⟨ov,v',rfl,hm,hc,hmv⟩
 exact⟨ov,v',rfl,hm.win,hc,hmv⟩
theorem cell_off {S:Nat→Prop}{w w':World}{p:Addr}{v:Value}(h:w.cell? p=some v)(hc:Chg S w w')(hS: ¬S p.block):w'.cell? p=some v:=by
 rw [World.cell?_of_block (w:=w) (hc.block _ (World.block_lt_of_cell? w _ h) hS)]
 exact h
theorem win_off {w:World}{B wa:Nat}{vw:Value}{n:Nat}{bs:List Nat}(h:Win w B wa vw n bs){g:Nat}{cs:Array Value}{t:TypeId}(hg:w.heap[g]?=some (.cells cs t (0,0)))(h2:t≠137)(h3:t≠5): ¬Foot wa vw g:=fun hz=>by
 rcases hz with rfl|hz
 ·obtain⟨cs',hb⟩:=winSpec.blk h
  exact ty_ne hg hb h2
 ·obtain⟨cs',hb⟩:=winSpec.ring h g hz
  exact ty_ne hg hb h3
theorem st5_one (t:Stt):(#[.int .i64 t.n,.int .i64 t.a,.int .i64 t.b,.int .i64 t.c,.int .i64 t.d]:Array Value).all (·.oneCell')=true:=by simp [int_one]
theorem infoSt5:(Tryz.prog.info? 88).map (·.size)=some 5:=by kernel_rfl
theorem le_put {w w1 w2:World}{B a:Nat}{D:Dir}{V:Lst}{wa:Nat}{vw v':Value}{ea:Nat}{ve:Value}{p:Prp}{n:Nat}{bs bs2:List Nat}{s t:Stt}{c:Cd}(h:Le w B a D V wa vw ea ve ⟨p,n,bs,s,c⟩)(h1:Chg (Foot wa vw) w w1)(h2:Chg (fun z=>z=a) w1 w2)(hb:w2.heap[a]?=some (.cells (encC p D V wa t ea) 95 (0,0)))(hw:Win w1 B wa v' n bs2)(hm:Moved w vw v'):Le w2 B a D V wa v' ea ve ⟨p,n,bs2,t,c⟩:=by
 have hba:w1.heap[a]?=some (.cells (encC p D V wa s ea) 95 (0,0)):=blk_keep h.blk h1 (win_off h.win h.blk (by decide) (by decide))
 have hp1:Part w1 B p c.pr 18 D V:=h.pt.keep h1 (fun t ht i hi=>by
  have hs:=(h.pt.fm t ht).st i hi
  refine⟨win_off h.win hs.blk (by decide) (by decide),fun z e=> ?_⟩
  obtain⟨cs,hz⟩:=owns_blk hs.own e
  exact win_off h.win hz (by decide) (by decide)) (fun t ht hi z e=>by
  obtain⟨cs,hz⟩:=owns_blk (h.pt.ls t ht hi) e
  exact win_off h.win hz (by decide) (by decide))
 have he1:Enc w1 B ea ve c.e:=h.enc.keep2 h1 (fun z f k=>by
  rcases f with rfl|f
  ·obtain⟨cs,hz⟩:=h.enc.lt3.2.1
   exact win_off h.win hz (by decide) (by decide) k
  ·obtain⟨cs,hz⟩:=(h.enc.lt3.2.2 z f).2
   rcases k with rfl|k
   ·obtain⟨cs',hz'⟩:=winSpec.blk h.win
    exact ty_ne hz hz' (by decide)
   ·exact h.ap z f k)
 refine⟨h.ha,hb,hp1.off h2 (fun z e=>e) hba (by decide) (by decide) (by decide),winSpec.keep hw h2 (fun z f e=> ?_),he1.keep2 h2 (fun z f e=> ?_),fun g e e2=> ?_⟩
 ·subst e
  exact win_off hw hba (by decide) (by decide) f
 ·subst e
  rcases f with e3|f
  ·obtain⟨cs,hz⟩:=he1.lt3.2.1
   rw [←e3]at hz
   exact ty_ne hba hz (by decide)
  ·obtain⟨cs,hz⟩:=(he1.lt3.2.2 _ f).2
   exact ty_ne hba hz (by decide)
 ·rcases hm g e2 with k|k
  ·exact h.ap g e k
  ·have:=(h.enc.lt3.2.2 g e).1.2
   omega
set_option maxHeartbeats 4000000 in
set_option maxRecDepth 100000 in
theorem put_any {B a:Nat}{D:Dir}{V:Lst}{wa:Nat}{vw:Value}{ea:Nat}{ve:Value}{X:Lz}(S:StSpec Tab)(k yb yl yd:Int)(w:World)(h:Le w B a D V wa vw ea ve X)(hT:Tab w)(h0:0<B)(hB:B≤w.heap.size)(hI:Lz14.I X)(hy:(⟨k,yb,yl,yd⟩:Sym).I)(hbl:X.bs.length+273≤1152921504606846976)(hk:X.c.e.k+104≤140737488355328):Calls Tryz.prog 11 #[.pointer (some ⟨a,0,none⟩),.agg #[.int .i64 k,.int .u8 yb,.int .i64 yl,.int .i64 yd]] w fun e w'=>e= .returned (.int .i64 (errA X ⟨k,yb,yl,yd⟩))∧ ∃vw' ve',Le w' B a D V wa vw' ea ve' (putA X ⟨k,yb,yl,yd⟩)∧Chg (FE X.p D V a wa vw ea ve) w w'∧Moved w vw vw'∧Moved w ve ve':=by
 have cA:=chg_one w (.cells #[.int .i64 k,.int .u8 yb,.int .i64 yl,.int .i64 yd] 34)
 have HY:Hid ((w.alloc (.cells #[.int .i64 k,.int .u8 yb,.int .i64 yl,.int .i64 yd] 34)).heap[w.heap.size]?=some (.cells #[.int .i64 k,.int .u8 yb,.int .i64 yl,.int .i64 yd] 34 (0,0))):=heap_alloc_last _ _
 have HC:Hid (Chg (fun _=>False) w (w.alloc (.cells #[.int .i64 k,.int .u8 yb,.int .i64 yl,.int .i64 yd] 34))):=cA
 have HT:Hid (Tab (w.alloc (.cells #[.int .i64 k,.int .u8 yb,.int .i64 yl,.int .i64 yd] 34))):=tab_keep hT cA
 have HL:Hid (Le (w.alloc (.cells #[.int .i64 k,.int .u8 yb,.int .i64 yl,.int .i64 yd] 34)) B a D V wa vw ea ve X):=h.new cA
 obtain⟨er,her⟩: ∃er,errA X ⟨k,yb,yl,yd⟩=er:=⟨_,rfl⟩
 have HER:Hid (errA X ⟨k,yb,yl,yd⟩=er):=her
 have HRE:Hid (∀u,Chg (fun _=>False) (w.alloc (.cells #[.int .i64 k,.int .u8 yb,.int .i64 yl,.int .i64 yd] 34)) u→Calls Tryz.prog 36 #[.pointer (some ⟨a,0,none⟩),.agg #[.int .i64 k,.int .u8 yb,.int .i64 yl,.int .i64 yd]] u fun e w'=>e= .returned (.int .i64 er)∧Chg (fun _=>False) u w'):=fun u hc=>by
  have hl:=HL.out.new hc
  have h9:=refuses_q S B a wa vw X.n X.bs X.s k yb yl yd (right_I hI.rt) hy u (tab_keep HT.out hc) hl.win (by omega) (hl.cell 21 _ rfl) (hl.cell 22 _ rfl) (hl.cell 23 _ rfl) (hl.cell 24 _ rfl) (hl.cell 25 _ rfl) (hl.cell 26 _ rfl)
  rw [show(app X.n X.bs X.s ⟨k,yb,yl,yd⟩).2.2=er from her]at h9
  exact h9
 have HIX:Hid (Lz14.I X):=hI
 have HYI:Hid ((⟨k,yb,yl,yd⟩:Sym).I):=hy
 have HK:Hid (X.c.e.k+104≤140737488355328):=hk
 have HB:Hid (0<B∧B≤w.heap.size):=⟨h0,hB⟩
 have HBL:Hid (X.bs.length+273≤1152921504606846976):=hbl
 clear cA hT h her hI hy hk h0 hB hbl
 go_enter Tryz.func11,Tryz.ntmps11
 go_wp2_with fail
 generalize (w.alloc (.cells #[.int .i64 k,.int .u8 yb,.int .i64 yl,.int .i64 yd] 34))=W1 at*
 refine wp_region_last (mk:=fun u=> #[_,_,_,_,_,_,_,_,_,u 9,u 10,u 11,u 12,u 13,_,_,_,_,_,_,_,_,_,_,_,_,_,_,_,_,_,_,_,_,_,_,_,_,_,_,_,_,_,_,_,_,_,_,_,_]) (F:=fun slot vv ww=>(look [(9,.val (.pointer (some ⟨a,0,none⟩))),(10,.val (.pointer (some ⟨a,0,none⟩))),(11,.val (.pointer (some ⟨a,0,none⟩))),(12,.val (.agg #[.int .i64 k,.int .u8 yb,.int .i64 yl,.int .i64 yd])),(13,.val (.int .i64 er))] slot).holds vv ww) (fun _=>undef) rfl (by kernel_rfl) 5 _ rfl rfl (by kernel_rfl) ?_ (fun _ v w w' hc h=>Fact.stays _ v w w' hc h) ?_ ?_
 ·repeat (refine⟨⟨_,rfl,fun _ _=>rfl⟩,?_⟩)
  exact trivial
 ·refine⟨?_,?_,?_,?_,?_,trivial⟩
  ·intro u w_ hc hd K hK
   clear hd
   go_simp
   exact hK.out _ _ (Chg.refl _ _) rfl
  ·intro u w_ hc hd K hK
   have h9:(Fact.val (.pointer (some ⟨a,0,none⟩))).holds (u 9) w_:=hd.get 0 (by kernel_rfl)
   simp only [Fact.holds]at h9
   clear hd
   simp only [h9]at hK
   go_simp
   exact hK.out _ _ (Chg.refl _ _) rfl
  ·intro u w_ hc hd K hK
   have h10:(Fact.val (.pointer (some ⟨a,0,none⟩))).holds (u 10) w_:=hd.get 1 (by kernel_rfl)
   simp only [Fact.holds]at h10
   clear hd
   simp only [h10]at hK
   go_simp
   exact hK.out _ _ (Chg.refl _ _) rfl
  ·intro u w_ hc hd K hK
   clear hd
   obtain⟨x0,x1,x2,x3⟩:=cells4y (blk_keep HY.out hc (fun f=>f))
   go_simp
   exact hK.out _ _ (Chg.refl _ _) rfl
  ·intro u w_ hc hd K hK
   have h11:(Fact.val (.pointer (some ⟨a,0,none⟩))).holds (u 11) w_:=hd.get 2 (by kernel_rfl)
   simp only [Fact.holds]at h11
   have h12:(Fact.val (.agg #[.int .i64 k,.int .u8 yb,.int .i64 yl,.int .i64 yd])).holds (u 12) w_:=hd.get 3 (by kernel_rfl)
   simp only [Fact.holds]at h12
   clear hd
   simp only [h11,h12]at hK
   go_simp
   refine Calls.mono (HRE.out w_ hc) ?_
   rintro z w2 ⟨rfl,c2⟩
   exact hK.out _ w2 c2 rfl
 ·intro u w_ hc hA K hK
  have e13:u 13=(.int .i64 er):=hA.at 13 (by kernel_rfl)
  clear hA
  simp only [e13]at hK⊢
  go_simp
  refine hK.out _ _ ?_
  clear hK
  have HY2:Hid _:=blk_keep HY.out hc (fun f=>f)
  have HL2:Hid (Le w_ B a D V wa vw ea ve X):=HL.out.new hc
  have HT2:Hid (Tab w_):=tab_keep HT.out hc
  have HC2:Hid (Chg (fun _=>False) w w_):=chg_then HC.out hc
  clear hc HY HL HT HC HRE
  by_cases he:er=0
  rotate_left
  ·have HPA:Hid (putA X ⟨k,yb,yl,yd⟩=X):=put_no (by rw [HER.out];exact he)
   have e0:(er==0)=false:=by rw [beq_eq_false_iff_ne];exact he
   have e0':(er !=0)=true:=by simp [he]
   have e0'':decide (er=0)=false:=decide_eq_false he
   clear he
   go_wp2
   go_ret
   exact⟨by rw [HER.out];rfl,vw,ve,by rw [HPA.out];exact HL2.out,HC2.out.mono (fun _ f=>f.elim),Moved.refl _ _,Moved.refl _ _⟩
  subst he
  obtain⟨t,ht⟩: ∃t,(app X.n X.bs X.s ⟨k,yb,yl,yd⟩).2.1=t:=⟨_,rfl⟩
  obtain⟨bs2,hbs2⟩: ∃bs2,X.bs++(app X.n X.bs X.s ⟨k,yb,yl,yd⟩).1=bs2:=⟨_,rfl⟩
  have HPA:Hid (putA X ⟨k,yb,yl,yd⟩=⟨X.p,X.n,bs2,t,codeL X.c (symB X ⟨k,yb,yl,yd⟩)⟩):=by
   show _=_
   unfold putA
   rw [if_neg (by rw [HER.out];simp),ht,hbs2]
  have HF:Hid (formed ⟨k,yb,yl,yd⟩=0):=(nxt_err (app_next HER.out).1).2
  have HAE:Hid ((app X.n X.bs X.s ⟨k,yb,yl,yd⟩).2.2=0):=HER.out
  have HTT:Hid ((app X.n X.bs X.s ⟨k,yb,yl,yd⟩).2.1=t∧X.bs++(app X.n X.bs X.s ⟨k,yb,yl,yd⟩).1=bs2):=⟨ht,hbs2⟩
  clear ht hbs2
  have x27:w_.cell? ⟨a,27,none⟩=some (.pointer (some ⟨ea,0,none⟩)):=HL2.out.cell 27 _ rfl
  have HSP:Hid (∀u,Chg (fun _=>False) w_ u→Calls Tryz.prog 37 #[.pointer (some ⟨a,0,none⟩),.iface 98 (.agg #[.pointer (some ⟨ea,0,none⟩)]),.agg #[.int .i64 k,.int .u8 yb,.int .i64 yl,.int .i64 yd]] u fun e w'=>e= .returned (.tuple #[])∧IcE u B a D V wa vw ea ve X (symB X ⟨k,yb,yl,yd⟩) w'):=fun u hc=>by
   have hT9:=tab_keep HT2.out hc
   have hl9:=HL2.out.new hc
   have hsz:=hc.size
   have hsz2:=HC2.out.size
   have hBB:=HB.out
   exact spell_any (I:=IcE u B a D V wa vw ea ve X) (fun g cs=>penC HIX.out HK.out g cs) (fun l w w' h hc=>by obtain⟨v,h1⟩:=h;exact⟨v,h1.new hc⟩) S HIX.out (by have:=HBL.out;omega) k yb yl yd HYI.out HF.out u ⟨ve,⟨hl9,Chg.refl _ _,Moved.refl _ _,hT9,⟨by omega,hBB.1⟩⟩⟩
  clear HER
  go_upto_region 4 with fail
  refine wp_region_last (mk:=fun u=> #[_,_,_,_,_,_,_,_,_,_,_,_,_,_,_,_,_,u 17,u 18,u 19,u 20,u 21,u 22,u 23,u 24,u 25,u 26,_,_,_,_,_,_,_,_,_,_,_,_,_,_,_,_,_,_,_,_,_,_,_]) (F:=fun slot vv ww=>(look [(17,.val (.pointer (some ⟨a,0,none⟩))),(18,.val (.pointer (some ⟨a,0,none⟩))),(19,.val (.pointer (some ⟨a,0,none⟩))),(20,.val (.pointer (some ⟨a,0,none⟩))),(21,.val (.pointer (some ⟨a,0,none⟩))),(22,.val (.pointer (some ⟨a,27,none⟩))),(23,.val (.pointer (some ⟨ea,0,none⟩))),(24,.val (.agg #[.pointer (some ⟨ea,0,none⟩)])),(25,.val (.iface 98 (.agg #[.pointer (some ⟨ea,0,none⟩)]))),(26,.val (.agg #[.int .i64 k,.int .u8 yb,.int .i64 yl,.int .i64 yd]))] slot).holds vv ww) (fun _=>undef) rfl (by kernel_rfl) 10 _ rfl rfl (by kernel_rfl) ?_ (fun _ v w w' hc h=>Fact.stays _ v w w' hc h) ?_ ?_
  ·repeat (refine⟨⟨_,rfl,fun _ _=>rfl⟩,?_⟩)
   exact trivial
  ·refine⟨?_,?_,?_,?_,?_,?_,?_,?_,?_,?_,trivial⟩
   ·intro u w_1 hc hd K hK
    clear hd
    go_simp
    exact hK.out _ _ (Chg.refl _ _) rfl
   ·intro u w_1 hc hd K hK
    have h17:(Fact.val (.pointer (some ⟨a,0,none⟩))).holds (u 17) w_1:=hd.get 0 (by kernel_rfl)
    simp only [Fact.holds]at h17
    clear hd
    simp only [h17]at hK
    go_simp
    exact hK.out _ _ (Chg.refl _ _) rfl
   ·intro u w_1 hc hd K hK
    have h18:(Fact.val (.pointer (some ⟨a,0,none⟩))).holds (u 18) w_1:=hd.get 1 (by kernel_rfl)
    simp only [Fact.holds]at h18
    clear hd
    simp only [h18]at hK
    go_simp
    exact hK.out _ _ (Chg.refl _ _) rfl
   ·intro u w_1 hc hd K hK
    clear hd
    go_simp
    exact hK.out _ _ (Chg.refl _ _) rfl
   ·intro u w_1 hc hd K hK
    have h20:(Fact.val (.pointer (some ⟨a,0,none⟩))).holds (u 20) w_1:=hd.get 3 (by kernel_rfl)
    simp only [Fact.holds]at h20
    clear hd
    simp only [h20]at hK
    go_simp
    exact hK.out _ _ (Chg.refl _ _) rfl
   ·intro u w_1 hc hd K hK
    have h21:(Fact.val (.pointer (some ⟨a,0,none⟩))).holds (u 21) w_1:=hd.get 4 (by kernel_rfl)
    simp only [Fact.holds]at h21
    clear hd
    simp only [h21]at hK
    go_simp
    exact hK.out _ _ (Chg.refl _ _) rfl
   ·intro u w_1 hc hd K hK
    have h22:(Fact.val (.pointer (some ⟨a,27,none⟩))).holds (u 22) w_1:=hd.get 5 (by kernel_rfl)
    simp only [Fact.holds]at h22
    clear hd
    simp only [h22]at hK
    have hcell:=cell_chg x27 hc
    go_simp
    exact hK.out _ _ (Chg.refl _ _) rfl
   ·intro u w_1 hc hd K hK
    have h23:(Fact.val (.pointer (some ⟨ea,0,none⟩))).holds (u 23) w_1:=hd.get 6 (by kernel_rfl)
    simp only [Fact.holds]at h23
    clear hd
    simp only [h23]at hK
    go_simp
    exact hK.out _ _ (Chg.refl _ _) rfl
   ·intro u w_1 hc hd K hK
    have h24:(Fact.val (.agg #[.pointer (some ⟨ea,0,none⟩)])).holds (u 24) w_1:=hd.get 7 (by kernel_rfl)
    simp only [Fact.holds]at h24
    clear hd
    simp only [h24]at hK
    go_simp
    exact hK.out _ _ (Chg.refl _ _) rfl
   ·intro u w_1 hc hd K hK
    clear hd
    obtain⟨x0,x1,x2,x3⟩:=cells4y (blk_keep HY2.out hc (fun f=>f))
    go_simp
    exact hK.out _ _ (Chg.refl _ _) rfl
  ·intro u w_1 hc hA K hK
   have e19:u 19=(.pointer (some ⟨a,0,none⟩)):=hA.at 19 (by kernel_rfl)
   have e25:u 25=(.iface 98 (.agg #[.pointer (some ⟨ea,0,none⟩)])):=hA.at 25 (by kernel_rfl)
   have e26:u 26=(.agg #[.int .i64 k,.int .u8 yb,.int .i64 yl,.int .i64 yd]):=hA.at 26 (by kernel_rfl)
   clear hA
   simp only [e19,e25,e26]at hK⊢
   go_simp
   refine Calls.mono (HSP.out w_1 hc) ?_
   rintro z w4 ⟨rfl,v4,h4⟩
   have hb4:=foot_off (HL2.out.new hc) (fun z k=>k) h4.ch (blk_keep HY2.out hc (fun f=>f))
   refine hK.out _ _ ?_
   clear hK
   have HL4:Hid (Le w4 B a D V wa vw ea v4 ⟨X.p,X.n,X.bs,X.s,codeL X.c (symB X ⟨k,yb,yl,yd⟩)⟩):=h4.le
   have HT4:Hid (Tab w4):=h4.tb
   have HY4:Hid (w4.heap[w.heap.size]?=some (.cells #[.int .i64 k,.int .u8 yb,.int .i64 yl,.int .i64 yd] 34 (0,0))):=hb4
   have HC4:Hid (Chg (Sc X.p D ea ve) w w4):=((chg_then HC2.out hc).mono (fun _ f=>f.elim)).trans h4.ch (fun z k=> .inl k)
   have HM4:Hid (Moved w ve v4):=moved_from (Nat.le_trans HC2.out.size hc.size) h4.mv
   have HW4:Hid (Win w4 B wa vw X.n X.bs):=h4.le.win
   have x21:w4.cell? ⟨a,21,none⟩=some (.pointer (some ⟨wa,0,none⟩)):=h4.le.cell 21 _ rfl
   have x22:w4.cell? ⟨a,22,none⟩=some (.int .i64 X.s.n):=h4.le.cell 22 _ rfl
   have x23:w4.cell? ⟨a,23,none⟩=some (.int .i64 X.s.a):=h4.le.cell 23 _ rfl
   have x24:w4.cell? ⟨a,24,none⟩=some (.int .i64 X.s.b):=h4.le.cell 24 _ rfl
   have x25:w4.cell? ⟨a,25,none⟩=some (.int .i64 X.s.c):=h4.le.cell 25 _ rfl
   have x26:w4.cell? ⟨a,26,none⟩=some (.int .i64 X.s.d):=h4.le.cell 26 _ rfl
   have HA9:Hid (¬Foot wa vw a):=win_off h4.le.win h4.le.blk (by decide) (by decide)
   have HY9:Hid (¬Foot wa vw w.heap.size):=win_off h4.le.win hb4 (by decide) (by decide)
   have HAP:Hid (∀u,Chg (fun _=>False) w4 u→Calls Tryz.prog 38 #[.pointer (some ⟨wa,0,none⟩),.agg #[.int .i64 X.s.n,.int .i64 X.s.a,.int .i64 X.s.b,.int .i64 X.s.c,.int .i64 X.s.d],.agg #[.int .i64 k,.int .u8 yb,.int .i64 yl,.int .i64 yd]] u fun e w'=> ∃ov v',e= .returned (.tuple #[ov,.agg #[.int .i64 t.n,.int .i64 t.a,.int .i64 t.b,.int .i64 t.c,.int .i64 t.d],.int .i64 0])∧Win w' B wa v' X.n bs2∧Chg (Foot wa vw) u w'∧Moved u vw v'):=fun u hc9=>by
    have hBB:=HB.out
    have hs4:=HC4.out.size
    have hs9:=hc9.size
    have h9:=apply_any S X.s k yb yl yd (right_I HIX.out.rt) HYI.out (tab_keep HT4.out hc9) hBB.1 (by omega) (winSpec.new HW4.out hc9) HBL.out
    rw [HTT.out.1,HTT.out.2,HAE.out]at h9
    exact h9
   clear hc h4 hb4 HSP HL2 HT2 HY2 HC2 x27
   go_upto_region 5 with fail
   refine wp_region_setM (mk:=fun u=> #[_,_,_,_,_,_,u 6,u 7,_,_,_,_,_,_,_,_,_,_,_,_,_,_,_,_,_,_,_,_,u 28,u 29,u 30,u 31,u 32,u 33,u 34,u 35,u 36,u 37,u 38,u 39,u 40,u 41,u 42,u 43,_,_,_,_,_,_]) (G:=lookG [(29,.pointer (some ⟨a,0,none⟩)),(30,.pointer (some ⟨a,0,none⟩)),(31,.pointer (some ⟨a,0,none⟩)),(32,.pointer (some ⟨a,21,none⟩)),(33,.pointer (some ⟨wa,0,none⟩)),(34,.pointer (some ⟨a,0,none⟩)),(35,.pointer (some ⟨a,0,none⟩)),(36,.pointer (some ⟨a,0,none⟩)),(37,.pointer (some ⟨a,22,none⟩)),(38,.agg #[.int .i64 X.s.n,.int .i64 X.s.a,.int .i64 X.s.b,.int .i64 X.s.c,.int .i64 X.s.d]),(39,.agg #[.int .i64 k,.int .u8 yb,.int .i64 yl,.int .i64 yd])]) (J:=fun L_ u ww=>Chg (Foot wa vw) w4 ww∧((L_ 11=false∧L_ 12=false∧L_ 13=false∧L_ 14=false∧L_ 15=false∧L_ 17=false∧L_ 18=false∧Chg (fun _=>False) w4 ww)∨(L_ 11=true∧ ∃ov v',u 40= .tuple #[ov,.agg #[.int .i64 t.n,.int .i64 t.a,.int .i64 t.b,.int .i64 t.c,.int .i64 t.d],.int .i64 0]∧(L_ 12=true→u 28= .tuple #[ov,.agg #[.int .i64 t.n,.int .i64 t.a,.int .i64 t.b,.int .i64 t.c,.int .i64 t.d],.int .i64 0])∧(L_ 13=true→u 41=ov)∧(L_ 14=true→u 42= .agg #[.int .i64 t.n,.int .i64 t.a,.int .i64 t.b,.int .i64 t.c,.int .i64 t.d])∧(L_ 15=true→u 43= .int .i64 0)∧(L_ 17=true→u 6=ov)∧(Win ww B wa v' X.n bs2∧Moved w4 vw v')))∧(L_ 16=true→ ∃b7,u 7= .pointer (some ⟨b7,0,none⟩)∧w4.heap.size≤b7∧ww.heap[b7]?=some (.cells (if L_ 18=true then #[.int .i64 t.n,.int .i64 t.a,.int .i64 t.b,.int .i64 t.c,.int .i64 t.d]else #[.int .i64 0,.int .i64 0,.int .i64 0,.int .i64 0,.int .i64 0]) 88 (0,0)))∧(L_ 18=true→L_ 16=true)) [11,12,13,14,15,17,16,18] ([]) (fun _=>undef) rfl (by kernel_rfl) 19 _ rfl rfl (by kernel_rfl) (by kernel_rfl) ?_ ?_ ?_ ?_ ?_
   ·repeat (refine⟨fun _ _=>rfl,?_⟩)
    exact trivial
   ·intro L_ L2 u u2 ww h hj
    have l11_:L_ 11=L2 11:=(h 11 (by decide)).1
    have e11_:u 40=u2 40:=(h 11 (by decide)).2
    have l12_:L_ 12=L2 12:=(h 12 (by decide)).1
    have e12_:u 28=u2 28:=(h 12 (by decide)).2
    have l13_:L_ 13=L2 13:=(h 13 (by decide)).1
    have e13_:u 41=u2 41:=(h 13 (by decide)).2
    have l14_:L_ 14=L2 14:=(h 14 (by decide)).1
    have e14_:u 42=u2 42:=(h 14 (by decide)).2
    have l15_:L_ 15=L2 15:=(h 15 (by decide)).1
    have e15_:u 43=u2 43:=(h 15 (by decide)).2
    have l17_:L_ 17=L2 17:=(h 17 (by decide)).1
    have e17_:u 6=u2 6:=(h 17 (by decide)).2
    have l16_:L_ 16=L2 16:=(h 16 (by decide)).1
    have e16_:u 7=u2 7:=(h 16 (by decide)).2
    have l18_:L_ 18=L2 18:=(h 18 (by decide)).1
    show _∧_
    rw [←l11_,←e11_,←l12_,←e12_,←l13_,←e13_,←l14_,←e14_,←l15_,←e15_,←l17_,←e17_,←l16_,←e16_,←l18_]
    exact hj
   ·exact⟨(Chg.refl _ w4).drew,.inl ⟨rfl,rfl,rfl,rfl,rfl,rfl,rfl,(Chg.refl _ w4).drew⟩,(fun h=>nomatch h),(fun h=>nomatch h)⟩
   ·refine⟨?_,?_,?_,?_,?_,?_,?_,?_,?_,?_,?_,?_,?_,?_,?_,?_,?_,?_,?_,trivial⟩
    ·show StepRS _ _ _ _ _ _ _ _
     unfold StepRS
     intro L_ u w_ hj hd K hK
     clear hd
     have hc:=hj.1
     clear hj hc
     go_simp
     exact hK.out _ rfl
    ·show StepRS _ _ _ _ _ _ _ _
     unfold StepRS
     intro L_ u w_ hj hd K hK
     have h29:u 29= .pointer (some ⟨a,0,none⟩):=hd.get 0 (by kernel_rfl)
     clear hd
     simp only [h29]at hK
     have hc:=hj.1
     clear hj hc
     go_simp
     exact hK.out _ rfl
    ·show StepRS _ _ _ _ _ _ _ _
     unfold StepRS
     intro L_ u w_ hj hd K hK
     have h30:u 30= .pointer (some ⟨a,0,none⟩):=hd.get 1 (by kernel_rfl)
     clear hd
     simp only [h30]at hK
     have hc:=hj.1
     clear hj hc
     go_simp
     exact hK.out _ rfl
    ·show StepRS _ _ _ _ _ _ _ _
     unfold StepRS
     intro L_ u w_ hj hd K hK
     have h31:u 31= .pointer (some ⟨a,0,none⟩):=hd.get 2 (by kernel_rfl)
     clear hd
     simp only [h31]at hK
     have hc:=hj.1
     clear hj hc
     go_simp
     exact hK.out _ rfl
    ·show StepRS _ _ _ _ _ _ _ _
     unfold StepRS
     intro L_ u w_ hj hd K hK
     have h32:u 32= .pointer (some ⟨a,21,none⟩):=hd.get 3 (by kernel_rfl)
     clear hd
     simp only [h32]at hK
     have hc:=hj.1
     have v21:=cell_off x21 hc HA9.out
     clear hj hc
     go_simp
     exact hK.out _ rfl
    ·show StepRS _ _ _ _ _ _ _ _
     unfold StepRS
     intro L_ u w_ hj hd K hK
     clear hd
     have hc:=hj.1
     clear hj hc
     go_simp
     exact hK.out _ rfl
    ·show StepRS _ _ _ _ _ _ _ _
     unfold StepRS
     intro L_ u w_ hj hd K hK
     have h34:u 34= .pointer (some ⟨a,0,none⟩):=hd.get 5 (by kernel_rfl)
     clear hd
     simp only [h34]at hK
     have hc:=hj.1
     clear hj hc
     go_simp
     exact hK.out _ rfl
    ·show StepRS _ _ _ _ _ _ _ _
     unfold StepRS
     intro L_ u w_ hj hd K hK
     have h35:u 35= .pointer (some ⟨a,0,none⟩):=hd.get 6 (by kernel_rfl)
     clear hd
     simp only [h35]at hK
     have hc:=hj.1
     clear hj hc
     go_simp
     exact hK.out _ rfl
    ·show StepRS _ _ _ _ _ _ _ _
     unfold StepRS
     intro L_ u w_ hj hd K hK
     have h36:u 36= .pointer (some ⟨a,0,none⟩):=hd.get 7 (by kernel_rfl)
     clear hd
     simp only [h36]at hK
     have hc:=hj.1
     clear hj hc
     go_simp
     exact hK.out _ rfl
    ·show StepRS _ _ _ _ _ _ _ _
     unfold StepRS
     intro L_ u w_ hj hd K hK
     have h37:u 37= .pointer (some ⟨a,22,none⟩):=hd.get 8 (by kernel_rfl)
     clear hd
     simp only [h37]at hK
     have hc:=hj.1
     have v22:=cell_off x22 hc HA9.out
     have v23:=cell_off x23 hc HA9.out
     have v24:=cell_off x24 hc HA9.out
     have v25:=cell_off x25 hc HA9.out
     have v26:=cell_off x26 hc HA9.out
     clear hj hc
     go_simp
     exact hK.out _ rfl
    ·show StepRS _ _ _ _ _ _ _ _
     unfold StepRS
     intro L_ u w_ hj hd K hK
     clear hd
     have hc:=hj.1
     obtain⟨x0,x1,x2,x3⟩:=cells4y (blk_keep HY4.out hc HY9.out)
     clear hj hc
     go_simp
     exact hK.out _ rfl
    ·show StepWS _ _ _ _ _ _ _ _ _
     unfold StepWS
     intro L_ u w_ hj hli hwt hd K hK
     have h33:u 33= .pointer (some ⟨wa,0,none⟩):=hd.get 4 (by kernel_rfl)
     have h38:u 38= .agg #[.int .i64 X.s.n,.int .i64 X.s.a,.int .i64 X.s.b,.int .i64 X.s.c,.int .i64 X.s.d]:=hd.get 9 (by kernel_rfl)
     have h39:u 39= .agg #[.int .i64 k,.int .u8 yb,.int .i64 yl,.int .i64 yd]:=hd.get 10 (by kernel_rfl)
     clear hd
     simp only [h33,h38,h39]at hK
     obtain⟨hc,hm,ha,hs⟩:=hj
     rcases hm with⟨n40,n28,n41,n42,n43,n6,ns,hF⟩|⟨l40,_⟩
     ·have m28: ¬L_ 12=true:=by rw [n28];decide
      have m41: ¬L_ 13=true:=by rw [n41];decide
      have m42: ¬L_ 14=true:=by rw [n42];decide
      have m43: ¬L_ 15=true:=by rw [n43];decide
      have m6: ¬L_ 17=true:=by rw [n6];decide
      go_simp
      refine Calls.mono (HAP.out w_ hF) ?_
      rintro z w2 ⟨ov,v',rfl,hqw,c2,hqm⟩
      skip
      exact hK.out _ w2 ⟨hc.trans c2 (fun z f=> .inl f),.inr ⟨rfl,ov,v',rfl,(fun e=>absurd e m28),(fun e=>absurd e m41),(fun e=>absurd e m42),(fun e=>absurd e m43),(fun e=>absurd e m6),⟨hqw,moved_from hF.size hqm⟩⟩,(fun e=>by obtain⟨b7,e7,hb7,hk7⟩:=ha e;exact⟨b7,e7,hb7,blk_keep hk7 c2 (fun f_=>by have:=(winSpec.lt HW4.out _ f_).2;omega)⟩),hs⟩ trivial
     ·rw [l40]at hli;cases hli
    ·show StepWS _ _ _ _ _ _ _ _ _
     unfold StepWS
     intro L_ u w_ hj hli hwt hd K hK
     clear hd
     obtain⟨hc,hm,ha,hs⟩:=hj
     have lopr:L_ 11=true:=hwt ⟨11,.data⟩ (by simp) rfl
     rcases hm with⟨n40,n28,n41,n42,n43,n6,ns,hF⟩|⟨l40,ov,v',e40,q28,q41,q42,q43,q6,hp⟩
     ·rw [n40]at lopr;cases lopr
     ·have eo:=e40
      have HPH:Hid _:=hp
      clear hp
      simp only [eo]at hK⊢
      go_simp
      exact hK.out _ _ ⟨hc,.inr ⟨l40,ov,v',e40,(fun _=>rfl),q41,q42,q43,q6,HPH.out⟩,ha,hs⟩ trivial
    ·show StepWS _ _ _ _ _ _ _ _ _
     unfold StepWS
     intro L_ u w_ hj hli hwt hd K hK
     clear hd
     obtain⟨hc,hm,ha,hs⟩:=hj
     have lopr:L_ 12=true:=hwt ⟨12,.data⟩ (by simp) rfl
     rcases hm with⟨n40,n28,n41,n42,n43,n6,ns,hF⟩|⟨l40,ov,v',e40,q28,q41,q42,q43,q6,hp⟩
     ·rw [n28]at lopr;cases lopr
     ·have eo:=q28 lopr
      have HPH:Hid _:=hp
      clear hp
      simp only [eo,e40]at hK⊢
      go_simp
      exact hK.out _ _ ⟨hc,.inr ⟨l40,ov,v',e40,q28,(fun _=>rfl),q42,q43,q6,HPH.out⟩,ha,hs⟩ trivial
    ·show StepWS _ _ _ _ _ _ _ _ _
     unfold StepWS
     intro L_ u w_ hj hli hwt hd K hK
     clear hd
     obtain⟨hc,hm,ha,hs⟩:=hj
     have lopr:L_ 12=true:=hwt ⟨12,.data⟩ (by simp) rfl
     rcases hm with⟨n40,n28,n41,n42,n43,n6,ns,hF⟩|⟨l40,ov,v',e40,q28,q41,q42,q43,q6,hp⟩
     ·rw [n28]at lopr;cases lopr
     ·have eo:=q28 lopr
      have HPH:Hid _:=hp
      clear hp
      simp only [eo,e40]at hK⊢
      go_simp
      exact hK.out _ _ ⟨hc,.inr ⟨l40,ov,v',e40,q28,q41,(fun _=>rfl),q43,q6,HPH.out⟩,ha,hs⟩ trivial
    ·show StepWS _ _ _ _ _ _ _ _ _
     unfold StepWS
     intro L_ u w_ hj hli hwt hd K hK
     clear hd
     obtain⟨hc,hm,ha,hs⟩:=hj
     have lopr:L_ 12=true:=hwt ⟨12,.data⟩ (by simp) rfl
     rcases hm with⟨n40,n28,n41,n42,n43,n6,ns,hF⟩|⟨l40,ov,v',e40,q28,q41,q42,q43,q6,hp⟩
     ·rw [n28]at lopr;cases lopr
     ·have eo:=q28 lopr
      have HPH:Hid _:=hp
      clear hp
      simp only [eo,e40]at hK⊢
      go_simp
      exact hK.out _ _ ⟨hc,.inr ⟨l40,ov,v',e40,q28,q41,q42,(fun _=>rfl),q6,HPH.out⟩,ha,hs⟩ trivial
    ·show StepWS _ _ _ _ _ _ _ _ _
     unfold StepWS
     intro L_ u w_ hj hli hwt hd K hK
     clear hd
     obtain⟨hc,hm,ha,hs⟩:=hj
     have nal_:L_ 16≠true:=by rw [hli];decide
     have nst_: ¬L_ 18=true:=fun e=>nal_ (hs e)
     have c2:=chg_one w_ (.cells #[.int .i64 0,.int .i64 0,.int .i64 0,.int .i64 0,.int .i64 0] 88)
     rcases hm with⟨n40,n28,n41,n42,n43,n6,ns,hF⟩|⟨l40,ov,v',e40,q28,q41,q42,q43,q6,hp⟩
     ·go_simp
      refine hK.out _ _ ⟨hc.trans c2 (fun _ f=>f.elim),.inl ⟨n40,n28,n41,n42,n43,n6,ns,chg_then hF c2⟩,fun _=>⟨_,rfl,hc.size,?_⟩,fun _=>rfl⟩ trivial
      show _=some (Obj.cells (if L_ 18=true then #[.int .i64 t.n,.int .i64 t.a,.int .i64 t.b,.int .i64 t.c,.int .i64 t.d]else #[.int .i64 0,.int .i64 0,.int .i64 0,.int .i64 0,.int .i64 0]) 88 (0,0))
      rw [if_neg nst_]
      exact heap_alloc_last _ _
     ·have c:=c2
      have HP:=(show Win _ B wa v' X.n bs2∧Moved w4 vw v' from⟨winSpec.new hp.1 c,hp.2⟩)
      simp only [e40]at hK⊢
      go_simp
      refine hK.out _ _ ⟨hc.trans c2 (fun _ f=>f.elim),.inr ⟨l40,ov,v',e40,q28,q41,q42,q43,q6,HP⟩,fun _=>⟨_,rfl,hc.size,?_⟩,fun _=>rfl⟩ trivial
      show _=some (Obj.cells (if L_ 18=true then #[.int .i64 t.n,.int .i64 t.a,.int .i64 t.b,.int .i64 t.c,.int .i64 t.d]else #[.int .i64 0,.int .i64 0,.int .i64 0,.int .i64 0,.int .i64 0]) 88 (0,0))
      rw [if_neg nst_]
      exact heap_alloc_last _ _
    ·show StepWS _ _ _ _ _ _ _ _ _
     unfold StepWS
     intro L_ u w_ hj hli hwt hd K hK
     clear hd
     obtain⟨hc,hm,ha,hs⟩:=hj
     have lopr:L_ 13=true:=hwt ⟨13,.data⟩ (by simp) rfl
     rcases hm with⟨n40,n28,n41,n42,n43,n6,ns,hF⟩|⟨l40,ov,v',e40,q28,q41,q42,q43,q6,hp⟩
     ·rw [n41]at lopr;cases lopr
     ·have eo:=q41 lopr
      have HPH:Hid _:=hp
      clear hp
      simp only [eo,e40]at hK⊢
      go_simp
      exact hK.out _ _ ⟨hc,.inr ⟨l40,ov,v',e40,q28,q41,q42,q43,(fun _=>rfl),HPH.out⟩,ha,hs⟩ trivial
    ·show StepWS _ _ _ _ _ _ _ _ _
     unfold StepWS
     intro L_ u w_ hj hli hwt hd K hK
     clear hd
     obtain⟨hc,hm,ha,hs⟩:=hj
     have lal_:L_ 16=true:=hwt ⟨16,.data⟩ (by simp) rfl
     have lopr:L_ 14=true:=hwt ⟨14,.data⟩ (by simp) rfl
     have nst_: ¬L_ 18=true:=by rw [hli];decide
     rcases hm with⟨n40,n28,n41,n42,n43,n6,ns,hF⟩|⟨l40,ov,v',e40,q28,q41,q42,q43,q6,hp⟩
     ·rw [n42]at lopr;cases lopr
     ·have eo:=q42 lopr
      obtain⟨b7,e7,hb7,hk7⟩:=ha lal_
      rw [if_neg nst_]at hk7
      obtain⟨⟨p0,f0⟩,⟨p1,f1⟩,⟨p2,f2⟩,⟨p3,f3⟩,⟨p4,f4⟩,hblk,c⟩:=put5_of hk7 (.int .i64 t.n) (.int .i64 t.a) (.int .i64 t.b) (.int .i64 t.c) (.int .i64 t.d)
      have hb:=hk7
      have HP:Hid _:=(show Win _ B wa v' X.n bs2∧Moved w4 vw v' from⟨winSpec.keep hp.1 c (fun z f_ e_=>win_off hp.1 hb (by decide) (by decide) (e_▸f_)),hp.2⟩)
      have HL9:Hid (L_ 16=true):=lal_
      have HBK:Hid _:=hblk
      have HCH:Hid (Chg (Foot wa vw) w4 _):=hc.trans c (fun z e=> .inr (by omega))
      have HQ:Hid _:=(And.intro l40 (And.intro e40 (And.intro q28 (And.intro q41 (And.intro q42 (And.intro q43 q6))))))
      clear lal_ nst_ ha hs hblk c hc l40 e40 q28 q41 q42 q43 q6 hp hk7 hb
      simp only [e7,eo]at hK⊢
      go_simp
      obtain⟨l40,e40,q28,q41,q42,q43,q6⟩:=HQ.out
      exact hK.out undef _ ⟨HCH.out,.inr ⟨l40,ov,v',e40,q28,q41,q42,q43,q6,HP.out⟩,fun _=>⟨b7,e7,hb7,HBK.out⟩,fun _=>HL9.out⟩ trivial
   ·intro u w7 hj hA K hK
    obtain⟨hc7,hm,ha7,_⟩:=hj
    rcases hm with⟨n8,_⟩|⟨_,ov,v',e40,q28,q41,q42,q43,q6,hp⟩
    ·cases n8
    have e43:u 43= .int .i64 0:=q43 rfl
    have e6:u 6=ov:=q6 rfl
    obtain⟨b7,e7,hb7,hk7⟩:=ha7 rfl
    rw [if_pos rfl]at hk7
    obtain⟨z0,z1,z2,z3,z4⟩:=cells5 hk7
    have HB7:Hid _:=hk7
    have HP7:Hid _:=hp
    have HC7:Hid (Chg (Foot wa vw) w4 w7):=hc7
    have hblk:=blk_keep HL4.out.blk hc7 HA9.out
    have HBK:Hid (w7.heap[a]?=some (.cells (encC X.p D V wa X.s ea) 95 (0,0))):=hblk
    have HTH:Hid _:=there_blk hblk (o:=22) (n:=5) (by show 22+5≤28;omega)
    clear hA hc7 e40 q28 q41 q42 q43 q6 hp ha7 hblk hk7 x21 x22 x23 x24 x25 x26
    simp only [e43,e6,e7]
    go_simp
    refine hK.out _ _ ?_
    clear hK e43 e6 e7
    go_wp2_with (refine wpList_store_mid rfl 88 (.tmp 48) (.tmp 45) rfl a 22 #[.int .i64 t.n,.int .i64 t.a,.int .i64 t.b,.int .i64 t.c,.int .i64 t.d] rfl rfl HTH.out infoSt5 (st5_one t) ?_)
    go_wp2
    go_ret
    have hch:=chg_cells a (#[.int .i64 t.n,.int .i64 t.a,.int .i64 t.b,.int .i64 t.c,.int .i64 t.d]:Array Value).toList 22 w7
    have hbn:=blk_cells a 95 (#[.int .i64 t.n,.int .i64 t.a,.int .i64 t.b,.int .i64 t.c,.int .i64 t.d]:Array Value).toList 22 (encC X.p D V wa X.s ea).toList w7 (by rw [Array.toArray_toList];exact HBK.out)
    have hbn2:(w7.setCells a 22 (#[.int .i64 t.n,.int .i64 t.a,.int .i64 t.b,.int .i64 t.c,.int .i64 t.d]:Array Value).toList).heap[a]?=some (.cells (encC X.p D V wa t ea) 95 (0,0)):=hbn
    have hc47:Chg (fun z=>Foot wa vw z∨z=a) w4 (w7.setCells a 22 (#[.int .i64 t.n,.int .i64 t.a,.int .i64 t.b,.int .i64 t.c,.int .i64 t.d]:Array Value).toList):=(HC7.out.mono (fun z k=> .inl (.inl k))).trans hch (fun z e=> .inl (.inr e))
    have hl4:=HL4.out
    refine⟨by rw [show errA X ⟨k,yb,yl,yd⟩=0 from HAE.out];rfl,v',v4,?_,?_,?_,HM4.out⟩
    ·rw [HPA.out]
     exact le_put hl4 HC7.out hch hbn2 HP7.out.1 HP7.out.2
    ·refine HC4.out.mono ?_|>.trans hc47 ?_
     ·intro z k
      rcases k with k|⟨t,i,h1,h2,k⟩
      ·exact .inl (.inr (.inr (.inl k)))
      ·exact .inl (.inr (.inr (.inr (.inl ⟨t,i,h1,h2,.inr k⟩))))
     ·intro z k
      rcases k with k|rfl
      ·exact .inl (.inr (.inl k))
      ·exact .inl (.inl rfl)
    ·exact moved_from HC4.out.size HP7.out.2
end Go.Proofs.YthideplpcnhncaaGreatDoor
