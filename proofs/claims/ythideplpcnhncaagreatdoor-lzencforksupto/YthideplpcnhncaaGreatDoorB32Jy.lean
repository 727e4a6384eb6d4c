/- Of no statement by itself: Jy, Lk (without blanks and remarks). -/
import Derived.Test.YthideplpcnhncaaGreatDoorJx
import Derived.Test.YthideplpcnhncaaGreatDoorB19Sj
namespace Go.Proofs.YthideplpcnhncaaGreatDoor
open Go.RowKit
open St12 Sy13 Lz14
set_option linter.unusedVariables false
set_option linter.unusedSimpArgs false
theorem mvd_of {w:World}{p p':Prp}{D D':Dir}{V V':Lst}{a wa:Nat}{vw vw':Value}{ea ea':Nat}{ve ve':Value}(hw:Moved w vw vw')(he:(ea'=ea∧Moved w ve ve')∨(w.heap.size≤ea'∧ ∀g,ve'.ownBlock=some g→w.heap.size≤g))(hD:(p'=p∧D'=D∧V'=V)∨((∀t i,t<18→i<cntS p' t→w.heap.size≤(D' t i).1∧ ∀z,(D' t i).2.ownBlock=some z→w.heap.size≤z)∧ ∀t,t<18→isL t=true→ ∀z,(V' t).ownBlock=some z→w.heap.size≤z)):Mvd w (FE p D V a wa vw ea ve) (FE p' D' V' a wa vw' ea' ve'):=fun z hz=>by
 rcases hz with rfl|hz|hz|⟨t,i,ht,hi,hz⟩|⟨t,ht,hi,hz⟩
 ·exact .inl (.inl rfl)
 ·rcases hz with rfl|hz
  ·exact .inl (.inr (.inl (.inl rfl)))
  ·rcases hw z hz with k|k
   ·exact .inl (.inr (.inl (.inr k)))
   ·exact .inr k
 ·rcases he with⟨e1,he⟩|⟨h1,h2⟩
  ·subst e1
   rcases hz with rfl|hz
   ·exact .inl (.inr (.inr (.inl (.inl rfl))))
   ·rcases he z hz with k|k
    ·exact .inl (.inr (.inr (.inl (.inr k))))
    ·exact .inr k
  ·rcases hz with rfl|hz
   ·exact .inr h1
   ·exact .inr (h2 z hz)
 ·rcases hD with⟨rfl,rfl,rfl⟩|⟨h1,_⟩
  ·exact .inl (.inr (.inr (.inr (.inl ⟨t,i,ht,hi,hz⟩))))
  ·rcases hz with rfl|hz
   ·exact .inr (h1 t i ht hi).1
   ·exact .inr ((h1 t i ht hi).2 z hz)
 ·rcases hD with⟨rfl,rfl,rfl⟩|⟨_,h2⟩
  ·exact .inl (.inr (.inr (.inr (.inr ⟨t,ht,hi,hz⟩))))
  ·exact .inr (h2 t ht hi z hz)
theorem lzSpec:LzSpec LzE TbE where
 tk:=fun h hc hS=>⟨tab_lt h.1 hc (fun k=>by have:=hS 0 k;have:=h.2;omega),h.2⟩
 lt:=fun h z hz=>by
  obtain⟨D,V,wa,vw,ea,ve,rfl,hl⟩:=h
  exact hl.lt hz
 keep:=fun h hc hS=>by
  obtain⟨D,V,wa,vw,ea,ve,rfl,hl⟩:=h
  exact⟨D,V,wa,vw,ea,ve,rfl,hl.keep hc hS⟩
 down:=fun h hB=>by
  obtain⟨D,V,wa,vw,ea,ve,rfl,hl⟩:=h
  exact⟨D,V,wa,vw,ea,ve,rfl,hl.down hB⟩
 newP:=fun B p n w hT _ hpi _ hp=>lznew_p stSpec p hpi hp n w hT.1
 newN:=fun B p n w hT _ hpi _ hp hn=>lznew_n stSpec p hpi hp n hn w hT.1
 newIn:=fun B p n w hT _ hpi hp h1 h2=>(lznew_in stSpec p hpi hp n h1 h2 w hT.1).mono fun e w' ⟨a,D,V,wa,vw,ea,ve,he,hl,hc⟩=>⟨a,_,he,⟨D,V,wa,vw,ea,ve,rfl,hl⟩,hc⟩
 put:=fun B a F X y w h hT hB hI hy hbl hk=>by
  obtain⟨D,V,wa,vw,ea,ve,rfl,hl⟩:=h
  obtain⟨k,yb,yl,yd⟩:=y
  refine(put_any stSpec k yb yl yd w hl hT.1 hT.2 hB hI hy hbl hk).mono ?_
  rintro e w' ⟨he,vw',ve',hl',hc,hmw,hme⟩
  have hp:(putA X ⟨k,yb,yl,yd⟩).p=X.p:=by unfold putA;split<;>rfl
  exact⟨he,_,⟨D,V,wa,vw',ea,ve',rfl,hl'⟩,hc,mvd_of hmw (.inl ⟨rfl,hme⟩) (.inl ⟨hp,rfl,rfl⟩)⟩
 cost:=fun B a F X y w h hT hB hI hy hbl=>by
  obtain⟨D,V,wa,vw,ea,ve,rfl,hl⟩:=h
  obtain⟨k,yb,yl,yd⟩:=y
  refine(costc_any stSpec k yb yl yd w hl hT.1 hT.2 hB hI hy hbl).mono ?_
  rintro e w' ⟨he,hl',hc⟩
  exact⟨he,_,⟨D,V,wa,vw,ea,ve,rfl,hl'⟩,hc.mono (fun _ f=>f.elim),Mvd.refl _ _⟩
 size:=fun B a F X w h hk=>by
  obtain⟨D,V,wa,vw,ea,ve,rfl,hl⟩:=h
  exact sizec_any w hl hk
 cut:=fun B a F X w h hB hI hk=>by
  obtain⟨D,V,wa,vw,ea,ve,rfl,hl⟩:=h
  refine(cutc_any w hl hB hk).mono ?_
  rintro e w' ⟨ov,ea2,v2,he,hl',ho,hne,hc,h1,h2⟩
  refine⟨ov,_,he,⟨D,V,wa,vw,ea2,v2,rfl,hl'⟩,ho,fun g hg hz=> ?_,hc.mono (fun z e=> .inl (.inl e)),mvd_of (Moved.refl _ _) (.inr ⟨h1,h2⟩) (.inl ⟨rfl,rfl,rfl⟩)⟩
  have hgw:=(World.ownsRow.lt ho g hg).1
  obtain⟨cs,hgb⟩:=owns_blk ho hg
  rcases hz with e1|hz|hz|⟨t,i,ht,hi,hz⟩|⟨t,ht,hi,hz⟩
  ·have:=lt_of_blk hl.blk
   omega
  ·have:=(winSpec.lt hl.win g hz).2
   omega
  ·rcases hz with e1|hz
   ·obtain⟨cs',hb⟩:=hl'.enc.lt3.2.1
    rw [←e1]at hb
    exact ty_ne hgb hb (by decide)
   ·exact hne g hg hz
  ·have hs:=(hl.pt.fm t ht).st i hi
   rcases hz with e1|hz
   ·have:=hs.lt2.1;omega
   ·have:=(hs.lt2.2 g hz).2;omega
  ·have:=(World.ownsRow.lt (hl.pt.ls t ht hi) g hz).2
   omega
 reset:=fun B a F X p w h hT hB hI hpi=>by
  obtain⟨D,V,wa,vw,ea,ve,rfl,hl⟩:=h
  by_cases hp:allow p
  ·refine(reset_in stSpec p hpi w hl hT.1 hB hp).mono ?_
   rintro e w' ⟨he,D',V',hl',hc,hD,hV⟩
   have e1:resetA X p=⟨p,X.n,X.bs,st0,⟨fresh,X.c.e⟩⟩:=by unfold resetA;rw [if_pos hp]
   have e2:resetE p=0:=by unfold resetE;rw [if_pos hp]
   rw [e1,e2]
   exact⟨he,_,⟨D',V',wa,vw,ea,ve,rfl,hl'⟩,hc.mono (fun z e=> .inl (.inl e)),mvd_of (Moved.refl _ _) (.inl ⟨rfl,Moved.refl _ _⟩) (.inr ⟨hD,hV⟩)⟩
  ·refine(reset_out stSpec p hpi w hl hT.1 hp).mono ?_
   rintro e w' ⟨he,hc⟩
   have e1:resetA X p=X:=by unfold resetA;rw [if_neg hp]
   have e2:resetE p=6:=by unfold resetE;rw [if_neg hp]
   rw [e1,e2]
   exact⟨he,_,⟨D,V,wa,vw,ea,ve,rfl,hl.new hc⟩,hc.mono (fun _ f=>f.elim),Mvd.refl _ _⟩
 clear:=fun B a F X w h hT hB hI=>by
  obtain⟨D,V,wa,vw,ea,ve,rfl,hl⟩:=h
  have hpp:=pow_pb hI.al
  refine(clearc_any stSpec w hl hT.1 hB hI ⟨⟨by omega,by omega⟩,⟨by omega,by omega⟩,⟨by omega,by omega⟩⟩).mono ?_
  rintro e w' ⟨he,D',V',vw',hl',hc,hm,hD,hV⟩
  refine⟨he,_,⟨D',V',wa,vw',ea,ve,rfl,hl'⟩,hc.mono (fun z k=> ?_),mvd_of hm (.inl ⟨rfl,Moved.refl _ _⟩) (.inr ⟨hD,hV⟩)⟩
  rcases k with rfl|k
  ·exact .inl (.inl rfl)
  ·exact .inl (.inr (.inl k))
 fork:=fun B a F X w h hI hk=>by
  obtain⟨D,V,wa,vw,ea,ve,rfl,hl⟩:=h
  refine(forkc_any w hl hI hk).mono ?_
  rintro e w' ⟨a',D',V',wa',vw',ea',ve',he,hl',hc⟩
  exact⟨a',_,he,⟨D',V',wa',vw',ea',ve',rfl,hl'⟩,hc⟩
theorem tbE_of {W:World}(h:laidMetH Tryz.prog [("pith/state.moves",Rows.laid_pith_state_moves)] W):TbE W W.heap.size:=by
 have ht:=tab_of_laid h
 obtain⟨ty,fr,hb⟩:=ht
 exact⟨⟨ty,fr,hb⟩,lt_of_blk hb⟩
end Go.Proofs.YthideplpcnhncaaGreatDoor
namespace Go.Proofs.YthideplpcnhncaaGreatDoor
open Go.RowKit
open St12 Sy13 Lz14
set_option linter.unusedVariables false
set_option linter.unusedSimpArgs false
variable {Enc:EncT} {Tb:World→Nat→Prop}
theorem num_any (x:Int)(w:World):Calls Tryz.prog 8 #[.int .i64 x] w fun e w'=>e= .returned (.int .i64 x)∧w=w':=by
 go_enter Tryz.func8,Tryz.ntmps8
 go_wp2
 go_ret
 exact⟨rfl,rfl⟩
def pK:Prp:=⟨3,0,2⟩
theorem pK_I:pK.I:=⟨⟨by decide,by decide⟩,⟨by decide,by decide⟩,⟨by decide,by decide⟩⟩
theorem known_lit:costA (newA pK 4096) ⟨1,255,0,0⟩=152∧errA (newA pK 4096) ⟨1,255,0,0⟩=0:=by decide+kernel
theorem known_far:costA (newA pK 4096) ⟨2,0,2,1⟩=0∧errA (newA pK 4096) ⟨2,0,2,1⟩=7:=by decide+kernel
theorem by_start:Rc.by_ Rc.start=[0,0,0,0,0]:=by decide+kernel
theorem zeros_str:strOfNums (nums [0,0,0,0,0])=⟨#[0,0,0,0,0]⟩:=by kernel_rfl
theorem symI' (k b l d:Int)(hk:I64 k)(hb:0≤b∧b≤255)(hl:I64 l)(hd:I64 d):(⟨k,b,l,d⟩:Sym).I:=⟨hk,hl,hd,hb⟩
theorem pLE_ne (x:Addr)(w:World):(binOp .eql 27 (.pointer (some x)) (.pointer none)).run Tryz.prog w= .ok (.bool false) w:=by kernel_rfl
set_option maxHeartbeats 4000000 in
set_option maxRecDepth 100000 in
theorem known_any (S:LzSpec Enc Tb)(B:Nat)(w0:World)(hT:Tb w0 B)(hB:B≤w0.heap.size):Calls Tryz.prog 9 #[] w0 fun e w'=>e= .returned (.bool true)∧Chg (fun _=>False) w0 w':=by
 have HT:Hid (Tb w0 B):=hT
 have HN:Hid (Calls Tryz.prog 7 #[.agg #[.int .i64 3,.int .i64 0,.int .i64 2],.int .i64 4096] w0 fun e w'=> ∃a F,e= .returned (.tuple #[.pointer (some ⟨a,0,none⟩),.int .i64 0])∧Enc w' w0.heap.size a F (newA pK 4096)∧Chg (fun _=>False) w0 w'):=S.newIn B pK 4096 w0 hT hB pK_I (by decide) (by decide) (by decide)
 have HI:Hid (I (newA pK 4096)):=new_I (by decide) (by decide) (by decide)
 have HC1:Hid (∀(a:Nat) (F:Nat→Prop) (w:World),Enc w B a F (newA pK 4096)→Tb w B→B≤w.heap.size→Calls Tryz.prog 15 #[.pointer (some ⟨a,0,none⟩),.agg #[.int .i64 1,.int .u8 255,.int .i64 0,.int .i64 0]] w fun e w'=>e= .returned (.tuple #[.int .i64 152,.int .i64 0])∧ ∃F',Enc w' B a F' (newA pK 4096)∧Chg F w w'∧Mvd w F F'):=fun a F w h1 h2 h3=>by
  have h9:=S.cost B a F (newA pK 4096) ⟨1,255,0,0⟩ w h1 h2 h3 HI.out (symI' 1 255 0 0 ⟨by decide,by decide⟩ ⟨by decide,by decide⟩ ⟨by decide,by decide⟩ ⟨by decide,by decide⟩) (by decide)
  rw [known_lit.1,known_lit.2]at h9
  exact h9
 have HC2:Hid (∀(a:Nat) (F:Nat→Prop) (w:World),Enc w B a F (newA pK 4096)→Tb w B→B≤w.heap.size→Calls Tryz.prog 15 #[.pointer (some ⟨a,0,none⟩),.agg #[.int .i64 2,.int .u8 0,.int .i64 2,.int .i64 1]] w fun e w'=>e= .returned (.tuple #[.int .i64 0,.int .i64 7])∧ ∃F',Enc w' B a F' (newA pK 4096)∧Chg F w w'∧Mvd w F F'):=fun a F w h1 h2 h3=>by
  have h9:=S.cost B a F (newA pK 4096) ⟨2,0,2,1⟩ w h1 h2 h3 HI.out (symI' 2 0 2 1 ⟨by decide,by decide⟩ ⟨by decide,by decide⟩ ⟨by decide,by decide⟩ ⟨by decide,by decide⟩) (by decide)
  rw [known_far.1,known_far.2]at h9
  exact h9
 have HB:Hid (B≤w0.heap.size):=hB
 clear hT hB
 go_enter Tryz.func9,Tryz.ntmps9
 go_wp2_with fail
 refine Calls.mono HN.out ?_
 rintro z w1 ⟨a,F,rfl,he1,c1⟩
 have HE1:Hid (Enc w1 B a F (newA pK 4096)):=S.down he1 HB.out
 have HF1:Hid (∀z,F z→w0.heap.size≤z):=fun z h=>(S.lt he1 z h).1
 have HK1:Hid (Chg (fun _=>False) w0 w1):=c1
 have HSZ:Hid (∀w,Enc w B a F (newA pK 4096)→Calls Tryz.prog 10 #[.pointer (some ⟨a,0,none⟩)] w fun e w'=>e= .returned (.int .i64 5)∧Chg (fun _=>False) w w'):=fun w h=>S.size B a F _ w h (by decide)
 have hne:=pLE_ne ⟨a,0,none⟩
 clear he1 c1 HN
 go_wp2_with fail
 refine(num_any 0 w1).mono ?_
 rintro z w2 ⟨rfl,rfl⟩
 go_wp2_with fail
 refine(HSZ.out w1 HE1.out).mono ?_
 rintro z w2 ⟨rfl,c2⟩
 have HE2:Hid (Enc w2 B a F (newA pK 4096)):=S.new HE1.out c2
 have HK2:Hid (Chg (fun _=>False) w0 w2):=chg_then HK1.out c2
 clear c2 HE1 HK1 HSZ
 go_wp2_with fail
 refine(HC1.out a F w2 HE2.out (S.tn HT.out HK2.out) (Nat.le_trans HB.out HK2.out.size)).mono ?_
 rintro z w3 ⟨rfl,F3,he3,c3,m3⟩
 have HE3:Hid (Enc w3 B a F3 (newA pK 4096)):=he3
 have HK3:Hid (Chg (fun _=>False) w0 w3):=HK2.out.trans c3 (fun z h=> .inr (HF1.out z h))
 have HF3:Hid (∀z,F3 z→w0.heap.size≤z):=fun z h=>by
  rcases m3 z h with k|k
  ·exact HF1.out z k
  ·have:=HK2.out.size;omega
 clear he3 c3 m3 HE2 HK2 HF1 HC1
 go_wp2_with fail
 refine(HC2.out a F3 w3 HE3.out (S.tn HT.out HK3.out) (Nat.le_trans HB.out HK3.out.size)).mono ?_
 rintro z w4 ⟨rfl,F4,he4,c4,m4⟩
 have HE4:Hid (Enc w4 B a F4 (newA pK 4096)):=he4
 have HK4:Hid (Chg (fun _=>False) w0 w4):=HK3.out.trans c4 (fun z h=> .inr (HF3.out z h))
 have HF4:Hid (∀z,F4 z→w0.heap.size≤z):=fun z h=>by
  rcases m4 z h with k|k
  ·exact HF3.out z k
  ·have:=HK3.out.size;omega
 clear he4 c4 m4 HE3 HK3 HF3 HC2
 go_wp2_with fail
 refine(num_any 0 w4).mono ?_
 rintro z w5 ⟨rfl,rfl⟩
 go_wp2_with fail
 refine(num_any 7 w4).mono ?_
 rintro z w5 ⟨rfl,rfl⟩
 go_wp2_with fail
 refine(S.cut B a F4 (newA pK 4096) w4 HE4.out (Nat.le_trans HB.out HK4.out.size) HI.out (by decide)).mono ?_
 rintro z w5 ⟨ov,F5,rfl,he5,ho5,ha5,c5,m5⟩
 have HK5:Hid (Chg (fun _=>False) w0 w5):=HK4.out.trans c5 (fun z h=> .inr (HF4.out z h))
 have ho:w5.ownsRow w4.heap.size 5 1 ov 5 (ins .u8 (nums [0,0,0,0,0])):=by rw [←by_start];exact ho5
 obtain⟨oa,oc,hov⟩:=form1 ho
 subst hov
 have hcv:=conv_own ho
 rw [zeros_str]at hcv
 clear ho5 ho he5 ha5 c5 m5 HE4 HK4 HF4
 go_wp2
 go_ret
 exact⟨rfl,HK5.out⟩
end Go.Proofs.YthideplpcnhncaaGreatDoor
