/- Of no statement by itself: Ju, Jv, Jw (without blanks and remarks). -/
import Derived.Test.YthideplpcnhncaaGreatDoorJt
namespace Go.Proofs.YthideplpcnhncaaGreatDoor
open Go.RowKit
open St12 Sy13 Lz14
set_option linter.unusedVariables false
set_option linter.unusedSimpArgs false
set_option maxHeartbeats 4000000 in
set_option maxRecDepth 100000 in
theorem costc_any {B a:Nat}{D:Dir}{V:Lst}{wa:Nat}{vw:Value}{ea:Nat}{ve:Value}{X:Lz}(S:StSpec Tab)(k yb yl yd:Int)(w:World)(h:Le w B a D V wa vw ea ve X)(hT:Tab w)(h0:0<B)(hB:B≤w.heap.size)(hI:Lz14.I X)(hy:(⟨k,yb,yl,yd⟩:Sym).I)(hbl:X.bs.length+273≤1152921504606846976):Calls Tryz.prog 15 #[.pointer (some ⟨a,0,none⟩),.agg #[.int .i64 k,.int .u8 yb,.int .i64 yl,.int .i64 yd]] w fun e w'=>e= .returned (.tuple #[.int .i64 (costA X ⟨k,yb,yl,yd⟩),.int .i64 (errA X ⟨k,yb,yl,yd⟩)])∧Le w' B a D V wa vw ea ve X∧Chg (fun _=>False) w w':=by
 have cA:=chg_one w (.cells #[.int .i64 k,.int .u8 yb,.int .i64 yl,.int .i64 yd] 34)
 have HY:Hid ((w.alloc (.cells #[.int .i64 k,.int .u8 yb,.int .i64 yl,.int .i64 yd] 34)).heap[w.heap.size]?=some (.cells #[.int .i64 k,.int .u8 yb,.int .i64 yl,.int .i64 yd] 34 (0,0))):=heap_alloc_last _ _
 have HC:Hid (Chg (fun _=>False) w (w.alloc (.cells #[.int .i64 k,.int .u8 yb,.int .i64 yl,.int .i64 yd] 34))):=cA
 have HT:Hid (Tab (w.alloc (.cells #[.int .i64 k,.int .u8 yb,.int .i64 yl,.int .i64 yd] 34))):=tab_keep hT cA
 have HL:Hid (Le (w.alloc (.cells #[.int .i64 k,.int .u8 yb,.int .i64 yl,.int .i64 yd] 34)) B a D V wa vw ea ve X):=h.new cA
 obtain⟨er,her⟩: ∃er,errA X ⟨k,yb,yl,yd⟩=er:=⟨_,rfl⟩
 have HER:Hid (errA X ⟨k,yb,yl,yd⟩=er):=her
 have HRE:Hid (∀u,Chg (fun _=>False) (w.alloc (.cells #[.int .i64 k,.int .u8 yb,.int .i64 yl,.int .i64 yd] 34)) u→Calls Tryz.prog 36 #[.pointer (some ⟨a,0,none⟩),.agg #[.int .i64 k,.int .u8 yb,.int .i64 yl,.int .i64 yd]] u fun e w'=>e= .returned (.int .i64 er)∧Chg (fun _=>False) u w'):=fun u hc=>by
  have hl:=HL.out.new hc
  have h9:=refuses_q S B a wa vw X.n X.bs X.s k yb yl yd (right_I hI.rt) hy u (tab_keep HT.out hc) hl.win (by omega) (hl.cell 21 _ rfl) (hl.cell 22 _ rfl) (hl.cell 23 _ rfl) (hl.cell 24 _ rfl) (hl.cell 25 _ rfl) (hl.cell 26 _ rfl)
  rw [show(app X.n X.bs X.s ⟨k,yb,yl,yd⟩).2.2=er from her]at h9
  exact h9
 have HIX:Hid (Lz14.I X):=hI
 have HYI:Hid ((⟨k,yb,yl,yd⟩:Sym).I):=hy
 have HB:Hid (0<B∧B≤w.heap.size):=⟨h0,hB⟩
 have HBL:Hid (X.bs.length+273≤1152921504606846976):=hbl
 clear cA hT h her hI hy h0 hB hbl
 go_enter Tryz.func15,Tryz.ntmps15
 go_wp2_with fail
 generalize (w.alloc (.cells #[.int .i64 k,.int .u8 yb,.int .i64 yl,.int .i64 yd] 34))=W1 at*
 refine wp_region_last (mk:=fun u=> #[_,_,_,_,_,_,_,_,u 8,u 9,u 10,u 11,u 12,_,_,_,_,_,_,_,_,_,_,_]) (F:=fun slot vv ww=>(look [(8,.val (.pointer (some ⟨a,0,none⟩))),(9,.val (.pointer (some ⟨a,0,none⟩))),(10,.val (.pointer (some ⟨a,0,none⟩))),(11,.val (.agg #[.int .i64 k,.int .u8 yb,.int .i64 yl,.int .i64 yd])),(12,.val (.int .i64 er))] slot).holds vv ww) (fun _=>undef) rfl (by kernel_rfl) 5 _ rfl rfl (by kernel_rfl) ?_ (fun _ v w w' hc h=>Fact.stays _ v w w' hc h) ?_ ?_
 ·repeat (refine⟨⟨_,rfl,fun _ _=>rfl⟩,?_⟩)
  exact trivial
 ·refine⟨?_,?_,?_,?_,?_,trivial⟩
  ·intro u w_ hc hd K hK
   clear hd
   go_simp
   exact hK.out _ _ (Chg.refl _ _) rfl
  ·intro u w_ hc hd K hK
   have h8:(Fact.val (.pointer (some ⟨a,0,none⟩))).holds (u 8) w_:=hd.get 0 (by kernel_rfl)
   simp only [Fact.holds]at h8
   clear hd
   simp only [h8]at hK
   go_simp
   exact hK.out _ _ (Chg.refl _ _) rfl
  ·intro u w_ hc hd K hK
   have h9:(Fact.val (.pointer (some ⟨a,0,none⟩))).holds (u 9) w_:=hd.get 1 (by kernel_rfl)
   simp only [Fact.holds]at h9
   clear hd
   simp only [h9]at hK
   go_simp
   exact hK.out _ _ (Chg.refl _ _) rfl
  ·intro u w_ hc hd K hK
   clear hd
   obtain⟨x0,x1,x2,x3⟩:=cells4y (blk_keep HY.out hc (fun f=>f))
   go_simp
   exact hK.out _ _ (Chg.refl _ _) rfl
  ·intro u w_ hc hd K hK
   have h10:(Fact.val (.pointer (some ⟨a,0,none⟩))).holds (u 10) w_:=hd.get 2 (by kernel_rfl)
   simp only [Fact.holds]at h10
   have h11:(Fact.val (.agg #[.int .i64 k,.int .u8 yb,.int .i64 yl,.int .i64 yd])).holds (u 11) w_:=hd.get 3 (by kernel_rfl)
   simp only [Fact.holds]at h11
   clear hd
   simp only [h10,h11]at hK
   go_simp
   refine Calls.mono (HRE.out w_ hc) ?_
   rintro z w2 ⟨rfl,c2⟩
   exact hK.out _ w2 c2 rfl
 ·intro u w_ hc hA K hK
  have e12:u 12=(.int .i64 er):=hA.at 12 (by kernel_rfl)
  clear hA
  simp only [e12]at hK⊢
  go_simp
  refine hK.out _ _ ?_
  clear hK
  have HY2:Hid _:=blk_keep HY.out hc (fun f=>f)
  have HL2:Hid (Le w_ B a D V wa vw ea ve X):=HL.out.new hc
  have HT2:Hid (Tab w_):=tab_keep HT.out hc
  have HC2:Hid (Chg (fun _=>False) w w_):=chg_then HC.out hc
  clear hc HY HL HT HC HRE
  by_cases he:er=0
  rotate_left
  ·have HCA:Hid (costA X ⟨k,yb,yl,yd⟩=0):=by show _=_;unfold costA;rw [if_pos (by rw [HER.out];exact he)]
   have e0:(er==0)=false:=by rw [beq_eq_false_iff_ne];exact he
   have e0':(er !=0)=true:=by simp [he]
   have e0'':decide (er=0)=false:=decide_eq_false he
   clear he
   go_wp2
   go_ret2
   exact⟨by rw [HER.out,HCA.out];rfl,HL2.out,HC2.out⟩
  subst he
  have HCA:Hid (costA X ⟨k,yb,yl,yd⟩=costL X.c.pr (symB X ⟨k,yb,yl,yd⟩)):=by show _=_;unfold costA;rw [if_neg (by rw [HER.out];simp)]
  have HF:Hid (formed ⟨k,yb,yl,yd⟩=0):=(nxt_err (app_next HER.out).1).2
  have cB:=chg_one w_ (.cells #[.int .i64 0] 103)
  have HC3:Hid (Chg (fun _=>False) w_ (w_.alloc (.cells #[.int .i64 0] 103))):=cB
  have HY3:Hid _:=blk_keep HY2.out cB (fun f=>f)
  have HK3:Hid ((w_.alloc (.cells #[.int .i64 0] 103)).heap[w_.heap.size]?=some (.cells #[.int .i64 0] 103 (0,0))):=heap_alloc_last _ _
  have HSP:Hid (∀u,Chg (fun _=>False) (w_.alloc (.cells #[.int .i64 0] 103)) u→Calls Tryz.prog 37 #[.pointer (some ⟨a,0,none⟩),.iface 104 (.pointer (some ⟨w_.heap.size,0,none⟩)),.agg #[.int .i64 k,.int .u8 yb,.int .i64 yl,.int .i64 yd]] u fun e w'=>e= .returned (.tuple #[])∧IkE u B a D V wa vw ea ve X w_.heap.size (symB X ⟨k,yb,yl,yd⟩) w'):=fun u hc=>by
   have hl9:=(HL2.out.new HC3.out).new hc
   have hBB:=HB.out
   have hsz2:=HC2.out.size
   exact spell_any (I:=IkE u B a D V wa vw ea ve X w_.heap.size) (fun g cs=>penK HIX.out g cs) (fun l w w' h hc=>h.new hc) S HIX.out (by have:=HBL.out;omega) k yb yl yd HYI.out HF.out u ⟨hl9,blk_keep HK3.out hc (fun f=>f),Chg.refl _ _,tab_keep (tab_keep HT2.out HC3.out) hc,by omega⟩
  clear cB
  go_upto_region 5 with fail
  generalize hWa:w_.alloc (.cells #[.int .i64 0] 103)=Wa at*
  refine wp_region_last (mk:=fun u=> #[_,_,_,_,_,_,_,_,_,_,_,_,_,_,_,_,u 16,u 17,u 18,u 19,u 20,_,_,_]) (F:=fun slot vv ww=>(look [(16,.val (.pointer (some ⟨a,0,none⟩))),(17,.val (.pointer (some ⟨a,0,none⟩))),(18,.val (.pointer (some ⟨a,0,none⟩))),(19,.val (.iface 104 (.pointer (some ⟨w_.heap.size,0,none⟩)))),(20,.val (.agg #[.int .i64 k,.int .u8 yb,.int .i64 yl,.int .i64 yd]))] slot).holds vv ww) (fun _=>undef) rfl (by kernel_rfl) 5 _ rfl rfl (by kernel_rfl) ?_ (fun _ v w w' hc h=>Fact.stays _ v w w' hc h) ?_ ?_
  ·repeat (refine⟨⟨_,rfl,fun _ _=>rfl⟩,?_⟩)
   exact trivial
  ·refine⟨?_,?_,?_,?_,?_,trivial⟩
   ·intro u w_1 hc hd K hK
    clear hd
    go_simp
    exact hK.out _ _ (Chg.refl _ _) rfl
   ·intro u w_1 hc hd K hK
    have h16:(Fact.val (.pointer (some ⟨a,0,none⟩))).holds (u 16) w_1:=hd.get 0 (by kernel_rfl)
    simp only [Fact.holds]at h16
    clear hd
    simp only [h16]at hK
    go_simp
    exact hK.out _ _ (Chg.refl _ _) rfl
   ·intro u w_1 hc hd K hK
    have h17:(Fact.val (.pointer (some ⟨a,0,none⟩))).holds (u 17) w_1:=hd.get 1 (by kernel_rfl)
    simp only [Fact.holds]at h17
    clear hd
    simp only [h17]at hK
    go_simp
    exact hK.out _ _ (Chg.refl _ _) rfl
   ·intro u w_1 hc hd K hK
    clear hd
    go_simp
    exact hK.out _ _ (Chg.refl _ _) rfl
   ·intro u w_1 hc hd K hK
    clear hd
    obtain⟨x0,x1,x2,x3⟩:=cells4y (blk_keep HY3.out hc (fun f=>f))
    go_simp
    exact hK.out _ _ (Chg.refl _ _) rfl
  ·intro u w_1 hc hA K hK
   have e18:u 18=(.pointer (some ⟨a,0,none⟩)):=hA.at 18 (by kernel_rfl)
   have e19:u 19=(.iface 104 (.pointer (some ⟨w_.heap.size,0,none⟩))):=hA.at 19 (by kernel_rfl)
   have e20:u 20=(.agg #[.int .i64 k,.int .u8 yb,.int .i64 yl,.int .i64 yd]):=hA.at 20 (by kernel_rfl)
   clear hA
   simp only [e18,e19,e20]at hK⊢
   go_simp
   refine Calls.mono (HSP.out w_1 hc) ?_
   rintro z w4 ⟨rfl,h4⟩
   refine hK.out _ _ ?_
   clear hK
   have hcell:w4.cell? ⟨w_.heap.size,0,none⟩=some (.int .i64 (costL X.c.pr (symB X ⟨k,yb,yl,yd⟩))):=by rw [cell_of_row _ _ _ _ _ _ h4.bx];rfl
   have HL4:Hid (Le w4 B a D V wa vw ea ve X):=h4.le
   have HC4:Hid (Chg (fun _=>False) w w4):=(chg_then (chg_then HC2.out HC3.out) hc).trans h4.ch (fun z e=> .inr (by have:=HC2.out.size;omega))
   clear hc h4 HSP HL2 HT2 HY2 HY3 HC2 HC3 HK3 hWa
   generalize costL X.c.pr (symB X ⟨k,yb,yl,yd⟩)=cc at*
   go_wp2
   go_ret2
   exact⟨by rw [HCA.out,HER.out];rfl,HL4.out,HC4.out⟩
set_option maxHeartbeats 4000000 in
set_option maxRecDepth 100000 in
theorem sizec_any {B a:Nat}{D:Dir}{V:Lst}{wa:Nat}{vw:Value}{ea:Nat}{ve:Value}{X:Lz}(w:World)(h:Le w B a D V wa vw ea ve X)(hk:X.c.e.k≤140737488355328):Calls Tryz.prog 10 #[.pointer (some ⟨a,0,none⟩)] w fun e w'=>e= .returned (.int .i64 ((X.c.e.k+5:Nat):Int))∧Chg (fun _=>False) w w':=by
 have x27:w.cell? ⟨a,27,none⟩=some (.pointer (some ⟨ea,0,none⟩)):=h.cell 27 _ rfl
 have HS:Hid _:=size_any B ea ve X.c.e w h.enc hk
 clear h
 generalize X.c.e.k+5=n5 at*
 go_enter Tryz.func10,Tryz.ntmps10
 go_wp2_with fail
 refine Calls.mono HS.out ?_
 rintro z w1 ⟨rfl,c1⟩
 go_wp2
 go_ret
 exact⟨rfl,c1⟩
theorem le_out {w w1 w2:World}{B a:Nat}{D:Dir}{V:Lst}{wa:Nat}{vw:Value}{ea ea2:Nat}{ve v2:Value}{p:Prp}{n:Nat}{bs:List Nat}{s:Stt}{c:Cd}{e2:Rc.E}(h:Le w B a D V wa vw ea ve ⟨p,n,bs,s,c⟩)(h1:Chg (fun _=>False) w w1)(hB:B≤w.heap.size)(he:Enc w1 w.heap.size ea2 v2 e2)(h2:Chg (fun z=>z=a) w1 w2)(hb:w2.heap[a]?=some (.cells (encC p D V wa s ea2) 95 (0,0))):Le w2 B a D V wa vw ea2 v2 ⟨p,n,bs,s,⟨c.pr,e2⟩⟩:=by
 have hl:=h.new h1
 refine⟨h.ha,hb,hl.pt.off h2 (fun z e=>e) hl.blk (by decide) (by decide) (by decide),winSpec.keep hl.win h2 (fun z f e=> ?_),(he.down hB).keep2 h2 (fun z f e=> ?_),fun g e e2=> ?_⟩
 ·subst e
  exact win_off hl.win hl.blk (by decide) (by decide) f
 ·subst e
  rcases f with e3|f
  ·obtain⟨cs,hz⟩:=he.lt3.2.1
   rw [←e3]at hz
   exact ty_ne hl.blk hz (by decide)
  ·obtain⟨cs,hz⟩:=(he.lt3.2.2 _ f).2
   exact ty_ne hl.blk hz (by decide)
 ·have h8:=(he.lt3.2.2 g e).1.1
  have h9:=(winSpec.lt h.win g (.inr e2)).2
  omega
set_option maxHeartbeats 4000000 in
set_option maxRecDepth 100000 in
theorem cutc_any {B a:Nat}{D:Dir}{V:Lst}{wa:Nat}{vw:Value}{ea:Nat}{ve:Value}{X:Lz}(w:World)(h:Le w B a D V wa vw ea ve X)(hB:B≤w.heap.size)(hk:X.c.e.k+5≤140737488355328):Calls Tryz.prog 13 #[.pointer (some ⟨a,0,none⟩)] w fun e w'=> ∃ov ea2 v2,e= .returned ov∧Le w' B a D V wa vw ea2 v2 (Lz14.cutA X)∧w'.ownsRow w.heap.size 5 1 ov (X.c.e.k+5) (ins .u8 (nums (Rc.by_ X.c.e)))∧(∀g,ov.ownBlock=some g→v2.ownBlock≠some g)∧Chg (fun z=>z=a) w w'∧w.heap.size≤ea2∧(∀g,v2.ownBlock=some g→w.heap.size≤g):=by
 have x27:w.cell? ⟨a,27,none⟩=some (.pointer (some ⟨ea,0,none⟩)):=h.cell 27 _ rfl
 have HBY:Hid _:=bytes_any B ea ve X.c.e w h.enc hk
 have HL:Hid (Le w B a D V wa vw ea ve X):=h
 have HB:Hid (B≤w.heap.size):=hB
 clear h hk hB
 go_enter Tryz.func13,Tryz.ntmps13
 go_wp2_with fail
 refine Calls.mono HBY.out ?_
 rintro z w1 ⟨ov,rfl,ho1,c1⟩
 have HO1:Hid _:=ho1
 have HC1:Hid (Chg (fun _=>False) w w1):=c1
 obtain⟨oa,oc,hov⟩:=form1 ho1
 clear ho1 c1 HBY x27
 subst hov
 go_wp2_with fail
 refine Calls.mono (rcnew_any w1) ?_
 rintro z w2 ⟨e2,rfl,he2,hen,c2⟩
 have hl2:=(HL.out.new HC1.out).new c2
 have hcell:w2.cell? ⟨a,27,none⟩=some (.pointer (some ⟨ea,0,none⟩)):=hl2.cell 27 _ rfl
 have hfz:w2.frozen? ⟨a,27,none⟩=false:=by simp [World.frozen?,hl2.blk]
 have hch:=chg_cells a [Value.pointer (some ⟨e2,0,none⟩)] 27 w2
 have hbn:=blk_cells a 95 [Value.pointer (some ⟨e2,0,none⟩)] 27 (encC X.p D V wa X.s ea).toList w2 (by rw [Array.toArray_toList];exact hl2.blk)
 have hbn2:(w2.setCell ⟨a,27,none⟩ (.pointer (some ⟨e2,0,none⟩))).heap[a]?=some (.cells (encC X.p D V wa X.s e2) 95 (0,0)):=hbn
 have hch2:Chg (fun z=>z=a) w2 (w2.setCell ⟨a,27,none⟩ (.pointer (some ⟨e2,0,none⟩))):=hch
 have HE:Hid (Enc w2 w1.heap.size e2 (.slice none 0 0) Rc.start):=⟨Rc.begin_,hen,Rc.begin_is⟩
 have hle:=le_out (HL.out.new HC1.out) c2 (Nat.le_trans HB.out HC1.out.size) HE.out hch2 hbn2
 have hne: ∀g,(Value.slice oa (X.c.e.k+5) oc).ownBlock=some g→g≠a:=fun g e e2=>by
  subst e2
  have h8:=(World.ownsRow.lt HO1.out g e).1
  have h9:=lt_of_blk HL.out.blk
  omega
 have hob:=ownsRow_keep (ownsRow_keep HO1.out c2 (fun _ _ f=>f)) hch2 hne
 have hcc:Chg (fun z=>z=a) w (w2.setCell ⟨a,27,none⟩ (.pointer (some ⟨e2,0,none⟩))):=((chg_then HC1.out c2).mono (fun _ f=>f.elim)).trans hch2 (fun z e=> .inl e)
 have HR:Hid _:=And.intro hle (And.intro hob hcc)
 have HE2:Hid (w.heap.size≤e2):=Nat.le_trans HC1.out.size he2
 clear hl2 hch hbn hbn2 hch2 hle hob hcc hen c2 HE he2 HL HO1 hne
 go_wp2
 go_ret
 exact⟨_,e2,.slice none 0 0,rfl,HR.out.1,HR.out.2.1,(fun g _ e=>nomatch e),HR.out.2.2,HE2.out,(fun g e=>nomatch e)⟩
end Go.Proofs.YthideplpcnhncaaGreatDoor
namespace Go.Proofs.YthideplpcnhncaaGreatDoor
open Go.RowKit
open St12 Sy13 Lz14
set_option linter.unusedVariables false
set_option linter.unusedSimpArgs false
theorem there21 (w1:World)(cs C:Array Value)(t:TypeId)(h:cs.size=21)(h2:C.size=21):(w1.alloc (.cells cs t)).there w1.heap.size 0 C.size:=there_blk (heap_alloc_last w1 _) (by rw [h,h2];omega)
def codC (p:Prp)(D:Dir)(V:Lst)(wa:Nat)(s:Stt):Array Value:= #[.int .i64 p.lc,.int .i64 p.lp,.int .i64 p.pb,V 0,V 1,ptV (D 2 0),ptV (D 3 0),ptV (D 4 0),ptV (D 5 0),V 6,ptV (D 7 0),V 8,V 9,ptV (D 10 0),ptV (D 11 0),V 12,V 13,ptV (D 14 0),V 15,V 16,ptV (D 17 0),.pointer (some ⟨wa,0,none⟩),.int .i64 s.n,.int .i64 s.a,.int .i64 s.b,.int .i64 s.c,.int .i64 s.d]
theorem range_blk {w:World}{g:Nat}{C:Array Value}{t:TypeId}(h:w.heap[g]?=some (.cells C t (0,0))):w.rangeAt g 0 C.toList:=fun j v hv=>by
 rw [cell_of_row _ _ _ _ _ _ h,Nat.zero_add]
 simpa using hv
structure NwI (W:World) (B:Nat) (p:Prp) (D:Dir) (V:Lst) (wa:Nat) (vw:Value) (n:Nat) (ea:Nat) (q:Nat) (x29 x30 x31 x4:Value) (w:World):Prop where
 ch:Chg (fun _=>False) W w
 en:1<q→x29= .pointer (some ⟨ea,0,none⟩)∧Enc w W.heap.size ea (.slice none 0 0) Rc.start
 e30:2<q→x30= .agg (encC p D V wa st0 ea)
 e31:3<q→ ∃b,x31= .pointer (some ⟨b,0,none⟩)∧W.heap.size≤b∧w.heap[b]?=some (.cells (encC p D V wa st0 ea) 95 (0,0))
 e4:4<q→x4=x31
def NwJ (W:World)(B:Nat)(p:Prp)(D:Dir)(V:Lst)(wa:Nat)(vw:Value)(n:Nat)(q:Nat)(x29 x30 x31 x4:Value)(w:World):Prop:= ∃ea,NwI W B p D V wa vw n ea q x29 x30 x31 x4 w
set_option maxHeartbeats 4000000 in
set_option maxRecDepth 100000 in
theorem lznew_p (S:StSpec Tab)(p:Prp)(hpi:p.I)(hp: ¬allow p)(n:Int)(w0:World)(hT:Tab w0):Calls Tryz.prog 7 #[.agg #[.int .i64 p.lc,.int .i64 p.lp,.int .i64 p.pb],.int .i64 n] w0 fun e w'=>e= .returned (.tuple #[.pointer none,.int .i64 6])∧Chg (fun _=>False) w0 w':=by
 have cP:=chg_one w0 (.cells #[.int .i64 p.lc,.int .i64 p.lp,.int .i64 p.pb] 23)
 have hP3:(w0.alloc (.cells #[.int .i64 p.lc,.int .i64 p.lp,.int .i64 p.pb] 23)).heap[w0.heap.size]?=some (.cells #[.int .i64 p.lc,.int .i64 p.lp,.int .i64 p.pb] 23 (0,0)):=heap_alloc_last _ _
 obtain⟨z0,z1,z2⟩:=cells3p hP3
 have HC:Hid (Chg (fun _=>False) w0 (w0.alloc (.cells #[.int .i64 p.lc,.int .i64 p.lp,.int .i64 p.pb] 23))):=cP
 have HMN:Hid _:=mnew_out S p hpi hp _ (tab_keep hT cP)
 clear hT cP hP3
 go_enter Tryz.func7,Tryz.ntmps7
 go_wp2_with fail
 refine Calls.mono HMN.out ?_
 rintro z w1 ⟨rfl,c1⟩
 have HC1:Hid (Chg (fun _=>False) w0 w1):=chg_then HC.out c1
 have HC2:Hid (Chg (fun _=>False) w0 ((w1.alloc (.cells #[.int .i64 0,.int .i64 0,.int .i64 0,.slice none 0 0,.slice none 0 0,.pointer none,.pointer none,.pointer none,.pointer none,.slice none 0 0,.pointer none,.slice none 0 0,.slice none 0 0,.pointer none,.pointer none,.slice none 0 0,.slice none 0 0,.pointer none,.slice none 0 0,.slice none 0 0,.pointer none] 82)).setCells w1.heap.size 0 Z21.toList)):=(chg_then HC1.out (chg_one w1 _)).trans (chg_cells _ _ _ _) (fun z e=> .inr (by have:=HC1.out.size;omega))
 clear c1 z0 z1 z2
 go_wp2_with (refine wpList_store_mid rfl 82 (.tmp 6) (.tmp 12) rfl w1.heap.size 0 Z21 rfl rfl ?_ infoMT z21_one ?_)
 ·exact there21 w1 _ _ _ (by kernel_rfl) (by kernel_rfl)
 generalize (w1.alloc (.cells #[.int .i64 0,.int .i64 0,.int .i64 0,.slice none 0 0,.slice none 0 0,.pointer none,.pointer none,.pointer none,.pointer none,.slice none 0 0,.pointer none,.slice none 0 0,.slice none 0 0,.pointer none,.pointer none,.slice none 0 0,.slice none 0 0,.pointer none,.slice none 0 0,.slice none 0 0,.pointer none] 82)).setCells w1.heap.size 0 Z21.toList=W2 at*
 go_ret2
 exact⟨rfl,HC2.out⟩
set_option maxHeartbeats 4000000 in
set_option maxRecDepth 100000 in
theorem lznew_n (S:StSpec Tab)(p:Prp)(hpi:p.I)(hp:allow p)(n:Int)(hn:n<1∨4294967295<n)(w0:World)(hT:Tab w0):Calls Tryz.prog 7 #[.agg #[.int .i64 p.lc,.int .i64 p.lp,.int .i64 p.pb],.int .i64 n] w0 fun e w'=>e= .returned (.tuple #[.pointer none,.int .i64 7])∧Chg (fun _=>False) w0 w':=by
 have cP:=chg_one w0 (.cells #[.int .i64 p.lc,.int .i64 p.lp,.int .i64 p.pb] 23)
 have hP3:(w0.alloc (.cells #[.int .i64 p.lc,.int .i64 p.lp,.int .i64 p.pb] 23)).heap[w0.heap.size]?=some (.cells #[.int .i64 p.lc,.int .i64 p.lp,.int .i64 p.pb] 23 (0,0)):=heap_alloc_last _ _
 obtain⟨z0,z1,z2⟩:=cells3p hP3
 have HC:Hid (Chg (fun _=>False) w0 (w0.alloc (.cells #[.int .i64 p.lc,.int .i64 p.lp,.int .i64 p.pb] 23))):=cP
 have HMN:Hid _:=mnew_in S p hpi hp w0.heap.size _ (tab_keep hT cP) cP.size
 have HTT:Hid (Tab w0):=hT
 clear hT cP hP3
 go_enter Tryz.func7,Tryz.ntmps7
 go_wp2_with fail
 refine Calls.mono HMN.out ?_
 rintro z w1 ⟨D,V,rfl,hp1,c1⟩
 have HC1:Hid (Chg (fun _=>False) w0 w1):=chg_then HC.out c1
 have HT1:Hid _:=tab_one hp1
 have hcs:Chg (fun _=>False) w1 ((w1.alloc (.cells #[.int .i64 0,.int .i64 0,.int .i64 0,.slice none 0 0,.slice none 0 0,.pointer none,.pointer none,.pointer none,.pointer none,.slice none 0 0,.pointer none,.slice none 0 0,.slice none 0 0,.pointer none,.pointer none,.slice none 0 0,.slice none 0 0,.pointer none,.slice none 0 0,.slice none 0 0,.pointer none] 82)).setCells w1.heap.size 0 (tabC p D V).toList):=(chg_one w1 _).trans (chg_cells _ _ _ _) (fun z e=> .inr (by omega))
 have HC2:Hid (Chg (fun _=>False) w0 ((w1.alloc (.cells #[.int .i64 0,.int .i64 0,.int .i64 0,.slice none 0 0,.slice none 0 0,.pointer none,.pointer none,.pointer none,.pointer none,.slice none 0 0,.pointer none,.slice none 0 0,.slice none 0 0,.pointer none,.pointer none,.slice none 0 0,.slice none 0 0,.pointer none,.slice none 0 0,.slice none 0 0,.pointer none] 82)).setCells w1.heap.size 0 (tabC p D V).toList)):=chg_then HC1.out hcs
 have HB2:Hid (((w1.alloc (.cells #[.int .i64 0,.int .i64 0,.int .i64 0,.slice none 0 0,.slice none 0 0,.pointer none,.pointer none,.pointer none,.pointer none,.slice none 0 0,.pointer none,.slice none 0 0,.slice none 0 0,.pointer none,.pointer none,.slice none 0 0,.slice none 0 0,.pointer none,.slice none 0 0,.slice none 0 0,.pointer none] 82)).setCells w1.heap.size 0 (tabC p D V).toList).heap[w1.heap.size]?=some (.cells (tabC p D V) 82 (0,0))):=blk_over (heap_alloc_last w1 _) (by rfl)
 have HP2:Hid (Part ((w1.alloc (.cells #[.int .i64 0,.int .i64 0,.int .i64 0,.slice none 0 0,.slice none 0 0,.pointer none,.pointer none,.pointer none,.pointer none,.slice none 0 0,.pointer none,.slice none 0 0,.slice none 0 0,.pointer none,.pointer none,.slice none 0 0,.slice none 0 0,.pointer none,.slice none 0 0,.slice none 0 0,.pointer none] 82)).setCells w1.heap.size 0 (tabC p D V).toList) w0.heap.size p fresh 18 D V):=hp1.new hcs
 clear c1 hp1 hcs z0 z1 z2
 go_wp2_with (refine wpList_store_mid rfl 82 (.tmp 6) (.tmp 12) rfl w1.heap.size 0 (tabC p D V) rfl rfl ?_ infoMT HT1.out ?_)
 ·exact there21 w1 _ _ _ (by kernel_rfl) (by kernel_rfl)
 generalize (w1.alloc (.cells #[.int .i64 0,.int .i64 0,.int .i64 0,.slice none 0 0,.slice none 0 0,.pointer none,.pointer none,.pointer none,.pointer none,.slice none 0 0,.pointer none,.slice none 0 0,.slice none 0 0,.pointer none,.pointer none,.slice none 0 0,.slice none 0 0,.pointer none,.slice none 0 0,.slice none 0 0,.pointer none] 82)).setCells w1.heap.size 0 (tabC p D V).toList=W2 at*
 refine Calls.mono (winSpec.newOut n W2 hn) ?_
 rintro z w3 ⟨rfl,c3⟩
 have HC3:Hid (Chg (fun _=>False) w0 w3):=chg_then HC2.out c3
 clear c3
 go_wp2
 go_ret2
 exact⟨rfl,HC3.out⟩
set_option maxHeartbeats 4000000 in
set_option maxRecDepth 100000 in
theorem lznew_in (S:StSpec Tab)(p:Prp)(hpi:p.I)(hp:allow p)(n:Nat)(hn1:1≤n)(hn2:n≤4294967295)(w0:World)(hT:Tab w0):Calls Tryz.prog 7 #[.agg #[.int .i64 p.lc,.int .i64 p.lp,.int .i64 p.pb],.int .i64 (n:Int)] w0 fun e w'=> ∃a D V wa vw ea ve,e= .returned (.tuple #[.pointer (some ⟨a,0,none⟩),.int .i64 0])∧Le w' w0.heap.size a D V wa vw ea ve (newA p n)∧Chg (fun _=>False) w0 w':=by
 have cP:=chg_one w0 (.cells #[.int .i64 p.lc,.int .i64 p.lp,.int .i64 p.pb] 23)
 have hP3:(w0.alloc (.cells #[.int .i64 p.lc,.int .i64 p.lp,.int .i64 p.pb] 23)).heap[w0.heap.size]?=some (.cells #[.int .i64 p.lc,.int .i64 p.lp,.int .i64 p.pb] 23 (0,0)):=heap_alloc_last _ _
 obtain⟨z0,z1,z2⟩:=cells3p hP3
 have HC:Hid (Chg (fun _=>False) w0 (w0.alloc (.cells #[.int .i64 p.lc,.int .i64 p.lp,.int .i64 p.pb] 23))):=cP
 have HMN:Hid _:=mnew_in S p hpi hp w0.heap.size _ (tab_keep hT cP) cP.size
 have HTT:Hid (Tab w0):=hT
 clear hT cP hP3
 go_enter Tryz.func7,Tryz.ntmps7
 go_wp2_with fail
 refine Calls.mono HMN.out ?_
 rintro z w1 ⟨D,V,rfl,hp1,c1⟩
 have HC1:Hid (Chg (fun _=>False) w0 w1):=chg_then HC.out c1
 have HT1:Hid _:=tab_one hp1
 have hcs:Chg (fun _=>False) w1 ((w1.alloc (.cells #[.int .i64 0,.int .i64 0,.int .i64 0,.slice none 0 0,.slice none 0 0,.pointer none,.pointer none,.pointer none,.pointer none,.slice none 0 0,.pointer none,.slice none 0 0,.slice none 0 0,.pointer none,.pointer none,.slice none 0 0,.slice none 0 0,.pointer none,.slice none 0 0,.slice none 0 0,.pointer none] 82)).setCells w1.heap.size 0 (tabC p D V).toList):=(chg_one w1 _).trans (chg_cells _ _ _ _) (fun z e=> .inr (by omega))
 have HC2:Hid (Chg (fun _=>False) w0 ((w1.alloc (.cells #[.int .i64 0,.int .i64 0,.int .i64 0,.slice none 0 0,.slice none 0 0,.pointer none,.pointer none,.pointer none,.pointer none,.slice none 0 0,.pointer none,.slice none 0 0,.slice none 0 0,.pointer none,.pointer none,.slice none 0 0,.slice none 0 0,.pointer none,.slice none 0 0,.slice none 0 0,.pointer none] 82)).setCells w1.heap.size 0 (tabC p D V).toList)):=chg_then HC1.out hcs
 have HB2:Hid (((w1.alloc (.cells #[.int .i64 0,.int .i64 0,.int .i64 0,.slice none 0 0,.slice none 0 0,.pointer none,.pointer none,.pointer none,.pointer none,.slice none 0 0,.pointer none,.slice none 0 0,.slice none 0 0,.pointer none,.pointer none,.slice none 0 0,.slice none 0 0,.pointer none,.slice none 0 0,.slice none 0 0,.pointer none] 82)).setCells w1.heap.size 0 (tabC p D V).toList).heap[w1.heap.size]?=some (.cells (tabC p D V) 82 (0,0))):=blk_over (heap_alloc_last w1 _) (by rfl)
 have HP2:Hid (Part ((w1.alloc (.cells #[.int .i64 0,.int .i64 0,.int .i64 0,.slice none 0 0,.slice none 0 0,.pointer none,.pointer none,.pointer none,.pointer none,.slice none 0 0,.pointer none,.slice none 0 0,.slice none 0 0,.pointer none,.pointer none,.slice none 0 0,.slice none 0 0,.pointer none,.slice none 0 0,.slice none 0 0,.pointer none] 82)).setCells w1.heap.size 0 (tabC p D V).toList) w0.heap.size p fresh 18 D V):=hp1.new hcs
 clear c1 hp1 hcs z0 z1 z2
 go_wp2_with (refine wpList_store_mid rfl 82 (.tmp 6) (.tmp 12) rfl w1.heap.size 0 (tabC p D V) rfl rfl ?_ infoMT HT1.out ?_)
 ·exact there21 w1 _ _ _ (by kernel_rfl) (by kernel_rfl)
 generalize (w1.alloc (.cells #[.int .i64 0,.int .i64 0,.int .i64 0,.slice none 0 0,.slice none 0 0,.pointer none,.pointer none,.pointer none,.pointer none,.slice none 0 0,.pointer none,.slice none 0 0,.slice none 0 0,.pointer none,.pointer none,.slice none 0 0,.slice none 0 0,.pointer none,.slice none 0 0,.slice none 0 0,.pointer none] 82)).setCells w1.heap.size 0 (tabC p D V).toList=W2 at*
 refine Calls.mono (winSpec.newIn n W2 hn1 hn2) ?_
 rintro z w3 ⟨wa,vw,rfl,hw3,c3⟩
 have HC3:Hid (Chg (fun _=>False) w0 w3):=chg_then HC2.out c3
 have HW3:Hid (Win w3 W2.heap.size wa vw n []):=hw3
 have HB3:Hid _:=blk_keep HB2.out c3 (fun f=>f)
 have HP3:Hid (Part w3 w0.heap.size p fresh 18 D V):=HP2.out.new c3
 have HT3:Hid (Tab w3):=tab_keep HTT.out HC3.out
 have HSZ:Hid (w0.heap.size≤W2.heap.size):=HC2.out.size
 clear c3 hw3 HB2 HP2 HC2 HMN HTT
 go_upto_region 7 with fail
 refine wp_region_setM (mk:=fun u=> #[_,_,_,_,u 4,_,_,_,_,_,_,_,_,_,_,_,_,_,_,_,_,_,_,_,_,u 25,u 26,u 27,u 28,u 29,u 30,u 31]) (G:=lookG [(25,.agg (tabC p D V)),(26,.pointer (some ⟨wa,0,none⟩)),(27,.agg #[.int .i64 0,.int .i64 1,.int .i64 1,.int .i64 1,.int .i64 1]),(28,.agg (codC p D V wa st0))]) (J:=fun L_ u ww=> ∃q,q≤5∧L_ 2=decide (0<q)∧L_ 4=decide (1<q)∧L_ 5=decide (2<q)∧L_ 6=decide (3<q)∧L_ 7=decide (4<q)∧NwJ w3 w0.heap.size p D V wa vw n q (u 29) (u 30) (u 31) (u 4) ww) [2,4,5,6,7] ([]) (fun t=>if t=4 then .pointer none else undef) rfl (by kernel_rfl) 8 _ rfl rfl (by kernel_rfl) (by kernel_rfl) ?_ ?_ ?_ ?_ ?_
 ·repeat (refine⟨fun _ _=>rfl,?_⟩)
  exact trivial
 ·intro L_ L2 u u2 ww h hj
  obtain⟨q,hq,l2,l4,l5,l6,l7,hs⟩:=hj
  have e29_:u 29=u2 29:=(h 4 (by decide)).2
  have e30_:u 30=u2 30:=(h 5 (by decide)).2
  have e31_:u 31=u2 31:=(h 6 (by decide)).2
  have e4_:u 4=u2 4:=(h 7 (by decide)).2
  rw [e29_,e30_,e31_,e4_]at hs
  exact⟨q,hq,((h 2 (by decide)).1).symm.trans l2,((h 4 (by decide)).1).symm.trans l4,((h 5 (by decide)).1).symm.trans l5,((h 6 (by decide)).1).symm.trans l6,((h 7 (by decide)).1).symm.trans l7,hs⟩
 ·exact⟨0,by omega,rfl,rfl,rfl,rfl,rfl,⟨0,(Chg.refl _ w3).drew,(fun e=>absurd e (by omega)),(fun e=>absurd e (by omega)),(fun e=>absurd e (by omega)),(fun e=>absurd e (by omega))⟩⟩
 ·refine⟨?_,?_,?_,?_,?_,?_,?_,?_,trivial⟩
  ·show StepRS _ _ _ _ _ _ _ _
   unfold StepRS
   intro L_ u w_ hj hd K hK
   clear hd
   obtain⟨q,hq,l2,l4,l5,l6,l7,hs⟩:=hj
   clear l2 l4 l5 l6 l7
   obtain⟨ea,hs⟩:=hs
   have HR:Hid _:=range_blk (blk_keep HB3.out hs.ch (fun f=>f))
   clear hs hq
   rw [if_pos (by rfl)]
   refine wp_load_mid 82 (.tmp 6) rfl w1.heap.size 0 rfl (tabC p D V).toList _ HR.out Tryz.underlying82 rfl infoMT ?_
   exact hK.out _ rfl
  ·show StepRS _ _ _ _ _ _ _ _
   unfold StepRS
   intro L_ u w_ hj hd K hK
   clear hd
   obtain⟨q,hq,l2,l4,l5,l6,l7,hs⟩:=hj
   clear l2 l4 l5 l6 l7
   clear hs hq
   go_simp
   exact hK.out _ rfl
  ·show StepWS _ _ _ _ _ _ _ _ _
   unfold StepWS
   intro L_ u w_ hj hli hwt hd K hK
   clear hd
   obtain⟨q,hq,l2,l4,l5,l6,l7,hs⟩:=hj
   have kq: ¬0<q:=fun e=>by rw [l2,decide_eq_true e]at hli;cases hli
   obtain rfl:q=0:=by omega
   clear kq hq
   obtain⟨ea,hs⟩:=hs
   go_simp
   refine Calls.mono (S.new w_ (tab_keep HT3.out hs.ch)) ?_
   rintro z w2 ⟨rfl,c2⟩
   exact hK.out _ w2 ⟨1,by omega,rfl,l4,l5,l6,l7,⟨ea,chg_then hs.ch c2,(fun e=>absurd e (by omega)),(fun e=>absurd e (by omega)),(fun e=>absurd e (by omega)),(fun e=>absurd e (by omega))⟩⟩ rfl
  ·show StepRS _ _ _ _ _ _ _ _
   unfold StepRS
   intro L_ u w_ hj hd K hK
   have h25:u 25= .agg (tabC p D V):=hd.get 0 (by kernel_rfl)
   have h26:u 26= .pointer (some ⟨wa,0,none⟩):=hd.get 1 (by kernel_rfl)
   have h27:u 27= .agg #[.int .i64 0,.int .i64 1,.int .i64 1,.int .i64 1,.int .i64 1]:=hd.get 2 (by kernel_rfl)
   clear hd
   simp only [h25,h26,h27]at hK
   obtain⟨q,hq,l2,l4,l5,l6,l7,hs⟩:=hj
   clear l2 l4 l5 l6 l7
   clear hs hq
   obtain⟨a0,c0,f0⟩:=form1 (HP3.out.ls 0 (by decide) rfl)
   obtain⟨a1,c1,f1⟩:=form1 (HP3.out.ls 1 (by decide) rfl)
   obtain⟨a6,c6,f6⟩:=form1 (HP3.out.ls 6 (by decide) rfl)
   obtain⟨a8,c8,f8⟩:=form1 (HP3.out.ls 8 (by decide) rfl)
   obtain⟨a9,c9,f9⟩:=form1 (HP3.out.ls 9 (by decide) rfl)
   obtain⟨a12,c12,f12⟩:=form1 (HP3.out.ls 12 (by decide) rfl)
   obtain⟨a13,c13,f13⟩:=form1 (HP3.out.ls 13 (by decide) rfl)
   obtain⟨a15,c15,f15⟩:=form1 (HP3.out.ls 15 (by decide) rfl)
   obtain⟨a16,c16,f16⟩:=form1 (HP3.out.ls 16 (by decide) rfl)
   simp only [tabC,f0,f1,f6,f8,f9,f12,f13,f15,f16,ptV]at h25 hK⊢
   simp only [h25,h26,h27]
   go_simp
   refine hK.out _ ?_
   show _=Value.agg (codC p D V wa st0)
   simp only [codC,f0,f1,f6,f8,f9,f12,f13,f15,f16,ptV]
   rfl
  ·show StepWS _ _ _ _ _ _ _ _ _
   unfold StepWS
   intro L_ u w_ hj hli hwt hd K hK
   clear hd
   obtain⟨q,hq,l2,l4,l5,l6,l7,hs⟩:=hj
   have kq: ¬1<q:=fun e=>by rw [l4,decide_eq_true e]at hli;cases hli
   have kw:L_ 2=true:=hwt ⟨2,.chain⟩ (by simp) rfl
   rw [l2,decide_eq_true_eq]at kw
   obtain rfl:q=1:=by omega
   clear kq hq kw
   obtain⟨ea,hs⟩:=hs
   go_simp
   refine Calls.mono (rcnew_any w_) ?_
   rintro z w2 ⟨e2,rfl,he2,hen,c2⟩
   exact hK.out _ w2 ⟨2,by omega,l2,rfl,l5,l6,l7,⟨e2,chg_then hs.ch c2,(fun _=>⟨rfl,Enc.down ⟨Rc.begin_,hen,Rc.begin_is⟩ hs.ch.size⟩),(fun e=>absurd e (by omega)),(fun e=>absurd e (by omega)),(fun e=>absurd e (by omega))⟩⟩ trivial
  ·show StepWS _ _ _ _ _ _ _ _ _
   unfold StepWS
   intro L_ u w_ hj hli hwt hd K hK
   have h28:u 28= .agg (codC p D V wa st0):=hd.get 3 (by kernel_rfl)
   clear hd
   simp only [h28]at hK
   obtain⟨q,hq,l2,l4,l5,l6,l7,hs⟩:=hj
   have kq: ¬2<q:=fun e=>by rw [l5,decide_eq_true e]at hli;cases hli
   have kw:L_ 4=true:=hwt ⟨4,.data⟩ (by simp) rfl
   rw [l4,decide_eq_true_eq]at kw
   obtain rfl:q=2:=by omega
   clear kq hq kw
   obtain⟨ea,hs⟩:=hs
   obtain⟨q29,hen⟩:=hs.en (by omega)
   have HS:Hid _:=hs
   clear hs
   obtain⟨a0,c0,f0⟩:=form1 (HP3.out.ls 0 (by decide) rfl)
   obtain⟨a1,c1,f1⟩:=form1 (HP3.out.ls 1 (by decide) rfl)
   obtain⟨a6,c6,f6⟩:=form1 (HP3.out.ls 6 (by decide) rfl)
   obtain⟨a8,c8,f8⟩:=form1 (HP3.out.ls 8 (by decide) rfl)
   obtain⟨a9,c9,f9⟩:=form1 (HP3.out.ls 9 (by decide) rfl)
   obtain⟨a12,c12,f12⟩:=form1 (HP3.out.ls 12 (by decide) rfl)
   obtain⟨a13,c13,f13⟩:=form1 (HP3.out.ls 13 (by decide) rfl)
   obtain⟨a15,c15,f15⟩:=form1 (HP3.out.ls 15 (by decide) rfl)
   obtain⟨a16,c16,f16⟩:=form1 (HP3.out.ls 16 (by decide) rfl)
   simp only [codC,f0,f1,f6,f8,f9,f12,f13,f15,f16,ptV]at h28 hK⊢
   simp only [h28,q29]at hK⊢
   go_simp
   exact hK.out _ _ ⟨3,by omega,l2,l4,rfl,l6,l7,⟨ea,HS.out.ch,(fun _=>HS.out.en (by omega)),(fun _=>by simp only [encC,f0,f1,f6,f8,f9,f12,f13,f15,f16,ptV];rfl),(fun e=>absurd e (by omega)),(fun e=>absurd e (by omega))⟩⟩ trivial
  ·show StepWS _ _ _ _ _ _ _ _ _
   unfold StepWS
   intro L_ u w_ hj hli hwt hd K hK
   clear hd
   obtain⟨q,hq,l2,l4,l5,l6,l7,hs⟩:=hj
   have kq: ¬3<q:=fun e=>by rw [l6,decide_eq_true e]at hli;cases hli
   have kw:L_ 5=true:=hwt ⟨5,.data⟩ (by simp) rfl
   rw [l5,decide_eq_true_eq]at kw
   obtain rfl:q=3:=by omega
   clear kq hq kw
   obtain⟨ea,hs⟩:=hs
   have q30:=hs.e30 (by omega)
   have HS:Hid _:=hs
   have HBX:Hid _:=heap_alloc_last w_ (.cells (encC p D V wa st0 ea) 95)
   have HCX:Hid _:=chg_one w_ (.cells (encC p D V wa st0 ea) 95)
   clear hs
   simp only [q30]at hK⊢
   go_simp
   exact hK.out _ _ ⟨4,by omega,l2,l4,l5,rfl,l7,⟨ea,chg_then HS.out.ch HCX.out,(fun _=>⟨(HS.out.en (by omega)).1,(HS.out.en (by omega)).2.keep2 HCX.out (fun _ _ f=>f)⟩),(fun _=>HS.out.e30 (by omega)),(fun _=>⟨_,rfl,HS.out.ch.size,HBX.out⟩),(fun e=>absurd e (by omega))⟩⟩ trivial
  ·show StepWS _ _ _ _ _ _ _ _ _
   unfold StepWS
   intro L_ u w_ hj hli hwt hd K hK
   clear hd
   obtain⟨q,hq,l2,l4,l5,l6,l7,hs⟩:=hj
   have kq: ¬4<q:=fun e=>by rw [l7,decide_eq_true e]at hli;cases hli
   have kw:L_ 6=true:=hwt ⟨6,.data⟩ (by simp) rfl
   rw [l6,decide_eq_true_eq]at kw
   obtain rfl:q=4:=by omega
   clear kq hq kw
   obtain⟨ea,hs⟩:=hs
   obtain⟨b_,q31,hb_,hk_⟩:=hs.e31 (by omega)
   have HS:Hid _:=hs
   clear hs
   simp only [q31]at hK⊢
   go_simp
   exact hK.out _ _ ⟨5,by omega,l2,l4,l5,l6,rfl,⟨ea,HS.out.ch,(fun _=>HS.out.en (by omega)),(fun _=>HS.out.e30 (by omega)),(fun _=>HS.out.e31 (by omega)),(fun _=>q31.symm)⟩⟩ trivial
 ·intro u w7 hj hA K hK
  obtain⟨q,hq,l2,l4,l5,l6,l7,hs⟩:=hj
  have hqn:4<q:=of_decide_eq_true (Eq.symm l7)
  clear l2 l4 l5 l6 l7
  obtain rfl:q=5:=by omega
  obtain⟨ea,hs⟩:=hs
  obtain⟨b,e31,hb,hbk⟩:=hs.e31 (by omega)
  have e4:u 4= .pointer (some ⟨b,0,none⟩):=(hs.e4 (by omega)).trans e31
  have hen:=(hs.en (by omega)).2
  have HF:Hid _:=And.intro hs.ch (And.intro hb (And.intro hbk hen))
  clear hs hA hq hqn hb hbk hen e31
  simp only [e4]
  go_simp
  refine hK.out _ _ ?_
  clear hK e4
  go_wp2
  go_ret2
  obtain⟨hch,hb,hbk,hen⟩:=HF.out
  have hs3:=HC3.out.size
  refine⟨b,D,V,wa,vw,ea,.slice none 0 0,rfl,⟨by omega,hbk,HP3.out.new hch,winSpec.new (winSpec.down HW3.out HSZ.out) hch,hen.down hs3,fun g e=>nomatch e⟩,chg_then HC3.out hch⟩
end Go.Proofs.YthideplpcnhncaaGreatDoor
namespace Go.Proofs.YthideplpcnhncaaGreatDoor
open Go.RowKit
open St12 Sy13 Lz14
set_option linter.unusedVariables false
set_option linter.unusedSimpArgs false
theorem wrt_pre (vs cs R:List Value)(h:cs.length=vs.length):wrt (cs++R) 0 vs=vs++R:=by
 apply List.ext_getElem?
 intro i
 rw [wrt_at vs _ 0 i (by rw [List.length_append];omega)]
 split
 ·next e=>rw [List.getElem?_append_left (by omega)];simp
 ·next e=>rw [List.getElem?_append_right (by omega),List.getElem?_append_right (by omega),h]
def restC (wa:Nat)(s:Stt)(ea:Nat):List Value:=[.pointer (some ⟨wa,0,none⟩),.int .i64 s.n,.int .i64 s.a,.int .i64 s.b,.int .i64 s.c,.int .i64 s.d,.pointer (some ⟨ea,0,none⟩)]
theorem enc_tab (p:Prp)(D:Dir)(V:Lst)(wa:Nat)(s:Stt)(ea:Nat):(encC p D V wa s ea).toList=(tabC p D V).toList++restC wa s ea:=rfl
theorem blk_tabs {w:World}{a:Nat}{p0 p:Prp}{D0 D:Dir}{V0 V:Lst}{wa:Nat}{s:Stt}{ea:Nat}(h:w.heap[a]?=some (.cells (encC p0 D0 V0 wa s ea) 95 (0,0))):(w.setCells a 0 (tabC p D V).toList).heap[a]?=some (.cells (encC p D V wa s ea) 95 (0,0)):=by
 have h9:=blk_cells a 95 (tabC p D V).toList 0 (encC p0 D0 V0 wa s ea).toList w (by rw [Array.toArray_toList];exact h)
 rw [enc_tab p0 D0 V0,wrt_pre (tabC p D V).toList (tabC p0 D0 V0).toList (restC wa s ea) rfl,←enc_tab,Array.toArray_toList]at h9
 exact h9
structure RsJ (W:World) (a:Nat) (C1 C2:Array Value) (q:Nat) (w:World):Prop where
 ch:Chg (fun z=>z=a) W w
 fr:q<2→Chg (fun _=>False) W w
 b1:q<2→w.heap[a]?=some (.cells C1 95 (0,0))
 b2:1<q→w.heap[a]?=some (.cells C2 95 (0,0))
set_option maxHeartbeats 4000000 in
set_option maxRecDepth 100000 in
theorem reset_out {B a:Nat}{D0:Dir}{V0:Lst}{wa:Nat}{vw:Value}{ea:Nat}{ve:Value}{X:Lz}(S:StSpec Tab)(p:Prp)(hpi:p.I)(w0:World)(h:Le w0 B a D0 V0 wa vw ea ve X)(hT:Tab w0)(hp: ¬allow p):Calls Tryz.prog 12 #[.pointer (some ⟨a,0,none⟩),.agg #[.int .i64 p.lc,.int .i64 p.lp,.int .i64 p.pb]] w0 fun e w'=>e= .returned (.int .i64 6)∧Chg (fun _=>False) w0 w':=by
 have cP:=chg_one w0 (.cells #[.int .i64 p.lc,.int .i64 p.lp,.int .i64 p.pb] 23)
 have hP3:(w0.alloc (.cells #[.int .i64 p.lc,.int .i64 p.lp,.int .i64 p.pb] 23)).heap[w0.heap.size]?=some (.cells #[.int .i64 p.lc,.int .i64 p.lp,.int .i64 p.pb] 23 (0,0)):=heap_alloc_last _ _
 obtain⟨z0,z1,z2⟩:=cells3p hP3
 have HC:Hid (Chg (fun _=>False) w0 (w0.alloc (.cells #[.int .i64 p.lc,.int .i64 p.lp,.int .i64 p.pb] 23))):=cP
 have HMN:Hid _:=mnew_out S p hpi hp _ (tab_keep hT cP)
 clear hT cP hP3 h
 go_enter Tryz.func12,Tryz.ntmps12
 go_wp2_with fail
 refine Calls.mono HMN.out ?_
 rintro z w1 ⟨rfl,c1⟩
 have HC1:Hid (Chg (fun _=>False) w0 w1):=chg_then HC.out c1
 have HC2:Hid (Chg (fun _=>False) w0 ((w1.alloc (.cells #[.int .i64 0,.int .i64 0,.int .i64 0,.slice none 0 0,.slice none 0 0,.pointer none,.pointer none,.pointer none,.pointer none,.slice none 0 0,.pointer none,.slice none 0 0,.slice none 0 0,.pointer none,.pointer none,.slice none 0 0,.slice none 0 0,.pointer none,.slice none 0 0,.slice none 0 0,.pointer none] 82)).setCells w1.heap.size 0 Z21.toList)):=(chg_then HC1.out (chg_one w1 _)).trans (chg_cells _ _ _ _) (fun z e=> .inr (by have:=HC1.out.size;omega))
 clear c1 z0 z1 z2
 go_wp2_with (refine wpList_store_mid rfl 82 (.tmp 5) (.tmp 10) rfl w1.heap.size 0 Z21 rfl rfl ?_ infoMT z21_one ?_)
 ·exact there21 w1 _ _ _ (by kernel_rfl) (by kernel_rfl)
 generalize (w1.alloc (.cells #[.int .i64 0,.int .i64 0,.int .i64 0,.slice none 0 0,.slice none 0 0,.pointer none,.pointer none,.pointer none,.pointer none,.slice none 0 0,.pointer none,.slice none 0 0,.slice none 0 0,.pointer none,.pointer none,.slice none 0 0,.slice none 0 0,.pointer none,.slice none 0 0,.slice none 0 0,.pointer none] 82)).setCells w1.heap.size 0 Z21.toList=W2 at*
 go_ret
 exact⟨rfl,HC2.out⟩
set_option maxHeartbeats 4000000 in
set_option maxRecDepth 100000 in
theorem reset_in {B a:Nat}{D0:Dir}{V0:Lst}{wa:Nat}{vw:Value}{ea:Nat}{ve:Value}{X:Lz}(S:StSpec Tab)(p:Prp)(hpi:p.I)(w0:World)(h:Le w0 B a D0 V0 wa vw ea ve X)(hT:Tab w0)(hB:B≤w0.heap.size)(hp:allow p):Calls Tryz.prog 12 #[.pointer (some ⟨a,0,none⟩),.agg #[.int .i64 p.lc,.int .i64 p.lp,.int .i64 p.pb]] w0 fun e w'=>e= .returned (.int .i64 0)∧ ∃D V,Le w' B a D V wa vw ea ve ⟨p,X.n,X.bs,st0,⟨fresh,X.c.e⟩⟩∧Chg (fun z=>z=a) w0 w'∧(∀t i,t<18→i<cntS p t→w0.heap.size≤(D t i).1∧ ∀z,(D t i).2.ownBlock=some z→w0.heap.size≤z)∧ ∀t,t<18→isL t=true→ ∀z,(V t).ownBlock=some z→w0.heap.size≤z:=by
 have cP:=chg_one w0 (.cells #[.int .i64 p.lc,.int .i64 p.lp,.int .i64 p.pb] 23)
 have hP3:(w0.alloc (.cells #[.int .i64 p.lc,.int .i64 p.lp,.int .i64 p.pb] 23)).heap[w0.heap.size]?=some (.cells #[.int .i64 p.lc,.int .i64 p.lp,.int .i64 p.pb] 23 (0,0)):=heap_alloc_last _ _
 obtain⟨z0,z1,z2⟩:=cells3p hP3
 have HC:Hid (Chg (fun _=>False) w0 (w0.alloc (.cells #[.int .i64 p.lc,.int .i64 p.lp,.int .i64 p.pb] 23))):=cP
 have HMN:Hid _:=mnew_in S p hpi hp w0.heap.size _ (tab_keep hT cP) cP.size
 have HTT:Hid (Tab w0):=hT
 have HL0:Hid (Le w0 B a D0 V0 wa vw ea ve X):=h
 have HBB:Hid (B≤w0.heap.size):=hB
 clear hT cP hP3 h hB
 go_enter Tryz.func12,Tryz.ntmps12
 go_wp2_with fail
 refine Calls.mono HMN.out ?_
 rintro z w1 ⟨D,V,rfl,hp1,c1⟩
 have HC1:Hid (Chg (fun _=>False) w0 w1):=chg_then HC.out c1
 have HT1:Hid _:=tab_one hp1
 have hcs:Chg (fun _=>False) w1 ((w1.alloc (.cells #[.int .i64 0,.int .i64 0,.int .i64 0,.slice none 0 0,.slice none 0 0,.pointer none,.pointer none,.pointer none,.pointer none,.slice none 0 0,.pointer none,.slice none 0 0,.slice none 0 0,.pointer none,.pointer none,.slice none 0 0,.slice none 0 0,.pointer none,.slice none 0 0,.slice none 0 0,.pointer none] 82)).setCells w1.heap.size 0 (tabC p D V).toList):=(chg_one w1 _).trans (chg_cells _ _ _ _) (fun z e=> .inr (by omega))
 have HC2:Hid (Chg (fun _=>False) w0 ((w1.alloc (.cells #[.int .i64 0,.int .i64 0,.int .i64 0,.slice none 0 0,.slice none 0 0,.pointer none,.pointer none,.pointer none,.pointer none,.slice none 0 0,.pointer none,.slice none 0 0,.slice none 0 0,.pointer none,.pointer none,.slice none 0 0,.slice none 0 0,.pointer none,.slice none 0 0,.slice none 0 0,.pointer none] 82)).setCells w1.heap.size 0 (tabC p D V).toList)):=chg_then HC1.out hcs
 have HB2:Hid (((w1.alloc (.cells #[.int .i64 0,.int .i64 0,.int .i64 0,.slice none 0 0,.slice none 0 0,.pointer none,.pointer none,.pointer none,.pointer none,.slice none 0 0,.pointer none,.slice none 0 0,.slice none 0 0,.pointer none,.pointer none,.slice none 0 0,.slice none 0 0,.pointer none,.slice none 0 0,.slice none 0 0,.pointer none] 82)).setCells w1.heap.size 0 (tabC p D V).toList).heap[w1.heap.size]?=some (.cells (tabC p D V) 82 (0,0))):=blk_over (heap_alloc_last w1 _) (by rfl)
 have HP2:Hid (Part ((w1.alloc (.cells #[.int .i64 0,.int .i64 0,.int .i64 0,.slice none 0 0,.slice none 0 0,.pointer none,.pointer none,.pointer none,.pointer none,.slice none 0 0,.pointer none,.slice none 0 0,.slice none 0 0,.pointer none,.pointer none,.slice none 0 0,.slice none 0 0,.pointer none,.slice none 0 0,.slice none 0 0,.pointer none] 82)).setCells w1.heap.size 0 (tabC p D V).toList) w0.heap.size p fresh 18 D V):=hp1.new hcs
 clear c1 hp1 hcs z0 z1 z2
 go_wp2_with (refine wpList_store_mid rfl 82 (.tmp 5) (.tmp 10) rfl w1.heap.size 0 (tabC p D V) rfl rfl ?_ infoMT HT1.out ?_)
 ·exact there21 w1 _ _ _ (by kernel_rfl) (by kernel_rfl)
 generalize (w1.alloc (.cells #[.int .i64 0,.int .i64 0,.int .i64 0,.slice none 0 0,.slice none 0 0,.pointer none,.pointer none,.pointer none,.pointer none,.slice none 0 0,.pointer none,.slice none 0 0,.slice none 0 0,.pointer none,.pointer none,.slice none 0 0,.slice none 0 0,.pointer none,.slice none 0 0,.slice none 0 0,.pointer none] 82)).setCells w1.heap.size 0 (tabC p D V).toList=W2 at*
 have HLE:Hid (Le W2 B a D0 V0 wa vw ea ve X):=HL0.out.new HC2.out
 have HT2:Hid (Tab W2):=tab_keep HTT.out HC2.out
 have HNE:Hid (¬w1.heap.size=a):=fun e=>by have:=lt_of_blk HL0.out.blk;have:=HC1.out.size;omega
 refine wp_region_setM (mk:=fun u=> #[_,_,_,_,_,_,_,_,_,_,_,_,_,_,_,u 15,u 16,u 17,u 18,u 19,u 20,u 21,u 22,u 23,u 24]) (G:=lookG [(15,.pointer (some ⟨a,0,none⟩)),(16,.pointer (some ⟨a,0,none⟩)),(17,.agg (tabC p D V)),(18,.agg #[.int .i64 0,.int .i64 1,.int .i64 1,.int .i64 1,.int .i64 1]),(19,.pointer (some ⟨a,0,none⟩)),(20,.pointer (some ⟨a,0,none⟩)),(21,.pointer (some ⟨a,0,none⟩)),(22,.pointer (some ⟨a,0,none⟩)),(23,.pointer (some ⟨a,0,none⟩)),(24,.pointer (some ⟨a,22,none⟩))]) (J:=fun L_ u ww=> ∃q,q≤2∧L_ 3=decide (0<q)∧L_ 7=decide (1<q)∧RsJ W2 a (encC X.p D0 V0 wa X.s ea) (encC p D V wa X.s ea) q ww) [3,7] ([]) (fun _=>undef) rfl (by kernel_rfl) 11 _ rfl rfl (by kernel_rfl) (by kernel_rfl) ?_ ?_ ?_ ?_ ?_
 ·repeat (refine⟨fun _ _=>rfl,?_⟩)
  exact trivial
 ·intro L_ L2 u u2 ww h hj
  obtain⟨q,hq,l3,l7,hs⟩:=hj
  exact⟨q,hq,((h 3 (by decide)).1).symm.trans l3,((h 7 (by decide)).1).symm.trans l7,hs⟩
 ·exact⟨0,by omega,rfl,rfl,⟨(Chg.refl _ W2).drew,(fun _=>(Chg.refl _ W2).drew),(fun _=>HLE.out.blk),(fun e=>absurd e (by omega))⟩⟩
 ·refine⟨?_,?_,?_,?_,?_,?_,?_,?_,?_,?_,?_,trivial⟩
  ·show StepRS _ _ _ _ _ _ _ _
   unfold StepRS
   intro L_ u w_ hj hd K hK
   clear hd
   obtain⟨q,hq,l3,l7,hs⟩:=hj
   clear l3 l7
   clear hs hq
   go_simp
   exact hK.out _ rfl
  ·show StepRS _ _ _ _ _ _ _ _
   unfold StepRS
   intro L_ u w_ hj hd K hK
   clear hd
   obtain⟨q,hq,l3,l7,hs⟩:=hj
   clear l3 l7
   clear hs hq
   go_simp
   exact hK.out _ rfl
  ·show StepRS _ _ _ _ _ _ _ _
   unfold StepRS
   intro L_ u w_ hj hd K hK
   clear hd
   obtain⟨q,hq,l3,l7,hs⟩:=hj
   clear l3 l7
   have HR:Hid _:=range_blk (blk_keep HB2.out hs.ch HNE.out)
   clear hs hq
   rw [if_pos (by rfl)]
   refine wp_load_mid 82 (.tmp 5) rfl w1.heap.size 0 rfl (tabC p D V).toList _ HR.out Tryz.underlying82 rfl infoMT ?_
   exact hK.out _ rfl
  ·show StepWS _ _ _ _ _ _ _ _ _
   unfold StepWS
   intro L_ u w_ hj hli hwt hd K hK
   clear hd
   obtain⟨q,hq,l3,l7,hs⟩:=hj
   have kq: ¬0<q:=fun e=>by rw [l3,decide_eq_true e]at hli;cases hli
   obtain rfl:q=0:=by omega
   clear kq hq
   go_simp
   refine Calls.mono (S.new w_ (tab_keep HT2.out (hs.fr (by omega)))) ?_
   rintro z w2 ⟨rfl,c2⟩
   exact hK.out _ w2 ⟨1,by omega,rfl,l7,⟨hs.ch.trans c2 (fun _ f=>f.elim),(fun _=>chg_then (hs.fr (by omega)) c2),(fun _=>blk_keep (hs.b1 (by omega)) c2 (fun f=>f)),(fun e=>absurd e (by omega))⟩⟩ rfl
  ·show StepRS _ _ _ _ _ _ _ _
   unfold StepRS
   intro L_ u w_ hj hd K hK
   have h15:u 15= .pointer (some ⟨a,0,none⟩):=hd.get 0 (by kernel_rfl)
   clear hd
   simp only [h15]at hK
   obtain⟨q,hq,l3,l7,hs⟩:=hj
   clear l3 l7
   clear hs hq
   go_simp
   exact hK.out _ rfl
  ·show StepRS _ _ _ _ _ _ _ _
   unfold StepRS
   intro L_ u w_ hj hd K hK
   have h19:u 19= .pointer (some ⟨a,0,none⟩):=hd.get 4 (by kernel_rfl)
   clear hd
   simp only [h19]at hK
   obtain⟨q,hq,l3,l7,hs⟩:=hj
   clear l3 l7
   clear hs hq
   go_simp
   exact hK.out _ rfl
  ·show StepRS _ _ _ _ _ _ _ _
   unfold StepRS
   intro L_ u w_ hj hd K hK
   have h20:u 20= .pointer (some ⟨a,0,none⟩):=hd.get 5 (by kernel_rfl)
   clear hd
   simp only [h20]at hK
   obtain⟨q,hq,l3,l7,hs⟩:=hj
   clear l3 l7
   clear hs hq
   go_simp
   exact hK.out _ rfl
  ·show StepWS _ _ _ _ _ _ _ _ _
   unfold StepWS
   intro L_ u w_ hj hli hwt hd K hK
   have h21:u 21= .pointer (some ⟨a,0,none⟩):=hd.get 6 (by kernel_rfl)
   have h17:u 17= .agg (tabC p D V):=hd.get 2 (by kernel_rfl)
   clear hd
   simp only [h21,h17]at hK
   obtain⟨q,hq,l3,l7,hs⟩:=hj
   have kq: ¬1<q:=fun e=>by rw [l7,decide_eq_true e]at hli;cases hli
   have kw:L_ 3=true:=hwt ⟨3,.phase⟩ (by simp) rfl
   rw [l3,decide_eq_true_eq]at kw
   obtain rfl:q=1:=by omega
   clear kq hq kw
   have HTH:Hid _:=there_blk (hs.b1 (by omega)) (o:=0) (n:=21) (by show 0+21≤28;omega)
   have hch:=chg_cells a (tabC p D V).toList 0 w_
   have HBN:Hid ((w_.setCells a 0 (tabC p D V).toList).heap[a]?=some (.cells (encC p D V wa X.s ea) 95 (0,0))):=blk_tabs (hs.b1 (by omega))
   have HCH:Hid _:=hch
   have HS:Hid _:=hs
   clear hs hch
   rw [if_pos (by rfl)]
   simp only [h17,h21]
   refine wp_store_mid 82 (.tmp 21) (.tmp 17) rfl a 0 (tabC p D V) rfl rfl HTH.out infoMT HT1.out ?_
   exact hK.out undef _ ⟨2,by omega,l3,rfl,⟨HS.out.ch.trans HCH.out (fun z e=> .inl e),(fun e=>absurd e (by omega)),(fun e=>absurd e (by omega)),(fun _=>HBN.out)⟩⟩ trivial
  ·show StepRS _ _ _ _ _ _ _ _
   unfold StepRS
   intro L_ u w_ hj hd K hK
   have h16:u 16= .pointer (some ⟨a,0,none⟩):=hd.get 1 (by kernel_rfl)
   clear hd
   simp only [h16]at hK
   obtain⟨q,hq,l3,l7,hs⟩:=hj
   clear l3 l7
   clear hs hq
   go_simp
   exact hK.out _ rfl
  ·show StepRS _ _ _ _ _ _ _ _
   unfold StepRS
   intro L_ u w_ hj hd K hK
   have h22:u 22= .pointer (some ⟨a,0,none⟩):=hd.get 8 (by kernel_rfl)
   clear hd
   simp only [h22]at hK
   obtain⟨q,hq,l3,l7,hs⟩:=hj
   clear l3 l7
   clear hs hq
   go_simp
   exact hK.out _ rfl
  ·show StepRS _ _ _ _ _ _ _ _
   unfold StepRS
   intro L_ u w_ hj hd K hK
   have h23:u 23= .pointer (some ⟨a,0,none⟩):=hd.get 9 (by kernel_rfl)
   clear hd
   simp only [h23]at hK
   obtain⟨q,hq,l3,l7,hs⟩:=hj
   clear l3 l7
   clear hs hq
   go_simp
   exact hK.out _ rfl
 ·intro u w7 hj hA K hK
  obtain⟨q,hq,l3,l7,hs⟩:=hj
  have hqn:1<q:=of_decide_eq_true (Eq.symm l7)
  clear l3 l7
  obtain rfl:q=2:=by omega
  have hb2:=hs.b2 (by omega)
  have HTH:Hid _:=there_blk hb2 (o:=22) (n:=5) (by show 22+5≤28;omega)
  have hch:=chg_cells a (#[.int .i64 0,.int .i64 1,.int .i64 1,.int .i64 1,.int .i64 1]:Array Value).toList 22 w7
  have hbn:=blk_cells a 95 (#[.int .i64 0,.int .i64 1,.int .i64 1,.int .i64 1,.int .i64 1]:Array Value).toList 22 (encC p D V wa X.s ea).toList w7 (by rw [Array.toArray_toList];exact hb2)
  have HBN:Hid ((w7.setCells a 22 (#[.int .i64 0,.int .i64 1,.int .i64 1,.int .i64 1,.int .i64 1]:Array Value).toList).heap[a]?=some (.cells (encC p D V wa st0 ea) 95 (0,0))):=hbn
  have HCH:Hid (Chg (fun z=>z=a) W2 (w7.setCells a 22 (#[.int .i64 0,.int .i64 1,.int .i64 1,.int .i64 1,.int .i64 1]:Array Value).toList)):=hs.ch.trans hch (fun z e=> .inl e)
  have e18:u 18= .agg #[.int .i64 0,.int .i64 1,.int .i64 1,.int .i64 1,.int .i64 1]:=hA.at 18 (by kernel_rfl)
  have e24:u 24= .pointer (some ⟨a,22,none⟩):=hA.at 24 (by kernel_rfl)
  clear hs hA hq hqn hb2 hch hbn
  simp only [e18,e24]at hK⊢
  refine wp_store_mid 88 (.tmp 24) (.tmp 18) rfl a 22 #[.int .i64 0,.int .i64 1,.int .i64 1,.int .i64 1,.int .i64 1] rfl rfl HTH.out infoSt5 (by kernel_rfl) ?_
  refine hK.out _ _ ?_
  clear hK
  generalize w7.setCells a 22 (#[.int .i64 0,.int .i64 1,.int .i64 1,.int .i64 1,.int .i64 1]:Array Value).toList=WN at*
  go_wp2
  go_ret
  have hl:=HLE.out
  have hsz:=HC2.out.size
  refine⟨rfl,D,V,⟨hl.ha,HBN.out,(HP2.out.off HCH.out (fun z e=>e) hl.blk (by decide) (by decide) (by decide)).down HBB.out,winSpec.keep hl.win HCH.out (fun z f e=> ?_),hl.enc.keep2 HCH.out (fun z f e=> ?_),hl.ap⟩,(HC2.out.mono (fun _ f=>f.elim)).trans HCH.out (fun z e=> .inl e),fun t i ht hi=> ?_,fun t ht hi z e=>(World.ownsRow.lt (HP2.out.ls t ht hi) z e).1⟩
  ·subst e
   exact win_off hl.win hl.blk (by decide) (by decide) f
  ·subst e
   rcases f with e3|f
   ·obtain⟨cs,hz⟩:=hl.enc.lt3.2.1
    rw [←e3]at hz
    exact ty_ne hl.blk hz (by decide)
   ·obtain⟨cs,hz⟩:=(hl.enc.lt3.2.2 _ f).2
    exact ty_ne hl.blk hz (by decide)
  ·have hst:=(HP2.out.fm t ht).st i hi
   exact⟨hst.ha,fun z e=>(hst.lt2.2 z e).1⟩
set_option maxHeartbeats 4000000 in
set_option maxRecDepth 100000 in
theorem clearc_any {B a:Nat}{D0:Dir}{V0:Lst}{wa:Nat}{vw:Value}{ea:Nat}{ve:Value}{X:Lz}(S:StSpec Tab)(w0:World)(h:Le w0 B a D0 V0 wa vw ea ve X)(hT:Tab w0)(hB:B≤w0.heap.size)(hI:Lz14.I X)(hpi:X.p.I):Calls Tryz.prog 16 #[.pointer (some ⟨a,0,none⟩)] w0 fun e w'=>e= .returned (.tuple #[])∧ ∃D V vw',Le w' B a D V wa vw' ea ve (clearA X)∧Chg (fun z=>z=a∨Foot wa vw z) w0 w'∧Moved w0 vw vw'∧(∀t i,t<18→i<cntS X.p t→w0.heap.size≤(D t i).1∧ ∀z,(D t i).2.ownBlock=some z→w0.heap.size≤z)∧ ∀t,t<18→isL t=true→ ∀z,(V t).ownBlock=some z→w0.heap.size≤z:=by
 have q0:w0.cell? ⟨a,0,none⟩=some (.int .i64 X.p.lc):=h.cell 0 _ rfl
 have q1:w0.cell? ⟨a,1,none⟩=some (.int .i64 X.p.lp):=h.cell 1 _ rfl
 have q2:w0.cell? ⟨a,2,none⟩=some (.int .i64 X.p.pb):=h.cell 2 _ rfl
 have HRS:Hid _:=reset_in S X.p hpi w0 h hT hB hI.al
 have HB:Hid (B≤w0.heap.size):=hB
 clear h hT hB
 go_enter Tryz.func16,Tryz.ntmps16
 go_wp2_with fail
 refine Calls.mono HRS.out ?_
 rintro z w1 ⟨rfl,D,V,hl,c1,hD,hV⟩
 have x21:w1.cell? ⟨a,21,none⟩=some (.pointer (some ⟨wa,0,none⟩)):=hl.cell 21 _ rfl
 have HCL:Hid _:=winSpec.clear B wa vw X.n X.bs w1 hl.win (Nat.le_trans HB.out c1.size)
 have HF:Hid _:=And.intro hl (And.intro c1 (And.intro hD hV))
 clear hl c1 hD hV q0 q1 q2 HRS
 go_wp2_with fail
 refine Calls.mono HCL.out ?_
 rintro z w2 ⟨rfl,v',hw,c2,hm⟩
 have HG:Hid _:=And.intro hw (And.intro c2 hm)
 clear hw c2 hm HCL x21
 go_wp2
 first|go_end0|(refine bodyPost_ret (results_none rfl _ _ _) rfl ?_)
 obtain⟨hl,c1,hD,hV⟩:=HF.out
 obtain⟨hw,c2,hm⟩:=HG.out
 refine⟨rfl,D,V,v',le_put (t:=st0) hl c2 (Chg.refl _ _) (blk_keep hl.blk c2 (win_off hl.win hl.blk (by decide) (by decide))) hw hm,?_,moved_from c1.size hm,hD,hV⟩
 exact(c1.mono (fun z e=> .inl (.inl e))).trans c2 (fun z f=> .inl (.inr f))
end Go.Proofs.YthideplpcnhncaaGreatDoor
