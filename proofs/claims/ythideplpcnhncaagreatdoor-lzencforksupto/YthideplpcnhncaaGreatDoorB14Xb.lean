/- Of no statement by itself: Xb, Xc, Xd, Xe (without blanks and remarks). -/
import Derived.Test.YthideplpcnhncaaGreatDoorB13Vj
namespace Go.Proofs.YthideplpcnhncaaGreatDoor
open Go.RowKit
set_option linter.unusedVariables false
theorem wclear_any (B a:Nat)(v:Value)(n:Nat)(bs:List Nat)(w:World)(h:Win w B a v n bs)(hB:B≤w.heap.size):Calls Tryz.prog 42 #[.pointer (some ⟨a,0,none⟩)] w fun e w'=>e= .returned (.tuple #[])∧ ∃v',Win w' B a v' n []∧Chg (Foot a v) w w'∧Moved w v v':=by
 obtain⟨ring,h⟩:=h
 obtain⟨k0,k1,k2,hf⟩:=cells3 h.blk
 have HH:Hid (WinR w B a v n bs ring):=h
 clear h
 go_enter Tryz.func42,Tryz.ntmps42
 go_wp2_with fail
 have h1:=set3 HH.out.blk 0 (.int .i64 (n:Int))
 have h2:=set3 h1 1 (.int .i64 0)
 have h3:=set3 h2 2 (.slice none 0 0)
 have hc:=(((Chg.refl (Foot a v) w).setCell (p:=⟨a,0,none⟩) (.inl (.inl rfl)) (.int .i64 (n:Int))).setCell (p:=⟨a,1,none⟩) (.inl (.inl rfl)) (.int .i64 0)).setCell (p:=⟨a,2,none⟩) (.inl (.inl rfl)) (.slice none 0 0)
 go_end0
 exact⟨rfl,.slice none 0 0,⟨[],HH.out.hr,h3,World.ownsRow_nil _ _ _ _,RM.nil n,HH.out.n1,HH.out.n2,fun x hx=>(List.not_mem_nil hx).elim⟩,hc,fun g e=>by cases e⟩
theorem eq_nil_some8 (x:Addr)(n c:Nat)(w:World):(binOp .eql 38 (.slice (some x) n c) (.slice none 0 0)).run Tryz.prog w= .ok (.bool false) w:=by kernel_rfl
theorem eq_nil_none8 (w:World):(binOp .eql 38 (.slice none 0 0) (.slice none 0 0)).run Tryz.prog w= .ok (.bool true) w:=by kernel_rfl
set_option maxHeartbeats 1000000 in
set_option maxRecDepth 100000 in
theorem bclone_any (B:Nat)(v:Value)(xs:List Nat)(w:World)(h:w.ownsRow B 5 1 v xs.length (ins .u8 (nums xs)))(hn:xs.length≤4294967295):
  Calls Tryz.prog 85 #[v] w fun e w'=> ∃v',e= .returned v'∧w'.ownsRow w.heap.size 5 1 v' xs.length (ins .u8 (nums xs))∧Chg (fun _=>False) w w':=by
 obtain⟨i0,hi,hz0,hz1,hz2⟩:=info_parts infoU8
 have hone:=ins_one .u8 (nums xs)
 rcases h.2 with⟨rfl,e0⟩|⟨g,cap,cur,rfl,_⟩
 ·have hx:xs=[]:=List.eq_nil_of_length_eq_zero e0
  subst hx
  have heq:=eq_nil_none8 w
  go_enter Tryz.func85,Tryz.ntmps85
  go_wp2
  go_ret
  exact⟨_,rfl,World.ownsRow_nil _ _ _ _,Chg.refl _ _⟩
 ·have hF:=own_from h
  have c1:=chg_one w (.cells #[] 5)
  have hF1:=hF.keep c1
  have hE:=own_empty w 5
  have hs:w.heap.size≤(w.alloc (.cells #[] 5)).heap.size:=c1.size
  have heq:=eq_nil_some8 ⟨g,0,none⟩ xs.length cap w
  clear h hF
  go_enter Tryz.func85,Tryz.ntmps85
  go_wp2_with (at_builtin;refine wpList_append_moved rfl _ _ 38 rfl w.heap.size 5 i0 (.int .u8 0) 1 1 Tryz.underlying38 hi hz0 hz1 hz2 rfl (by decide) _ 0 [] rfl (some ⟨g,0,none⟩) xs.length cap rfl (ins .u8 (nums xs)) hE hF1 hone (by unfold maxLen;omega) (by omega) hs ?_)
  intro v2 w2 ho hg hm
  have HC:Hid (Chg (fun _=>False) w w2):=c1.grown hg (fun k e=> .inr (hE.lt k e).1)
  have HO:Hid (w2.ownsRow w.heap.size 5 1 v2 xs.length (ins .u8 (nums xs))):=by simpa [Hid]using ho
  clear ho hg hm hE hF1 c1
  go_wp2
  go_ret
  exact⟨_,rfl,HO.out,HC.out⟩
set_option maxHeartbeats 2000000 in
set_option maxRecDepth 100000 in
theorem wfork_any (B a:Nat)(v:Value)(n:Nat)(bs:List Nat)(w:World)(h:Win w B a v n bs):Calls Tryz.prog 83 #[.pointer (some ⟨a,0,none⟩)] w fun e w'=> ∃a' v',e= .returned (.pointer (some ⟨a',0,none⟩))∧Win w' w.heap.size a' v' n bs∧Chg (fun _=>False) w w':=by
 obtain⟨ring,h⟩:=h
 obtain⟨ad0,c0,hv⟩:=form1 h.own
 subst hv
 obtain⟨k0,k1,k2,hf⟩:=cells3 h.blk
 obtain⟨L,hL⟩: ∃L,bs.length=L:=⟨_,rfl⟩
 have HL:Hid (bs.length=L):=hL
 rw [hL]at k1
 have HH:Hid (WinR w B a (.slice ad0 ring.length c0) n bs ring):=h
 have HO:Hid (w.ownsRow B 5 1 (.slice ad0 ring.length c0) ring.length (ins .u8 (nums ring))):=h.own
 have hrl:=h.small.2.1
 clear h hL
 go_enter Tryz.func83,Tryz.ntmps83
 go_wp2_with fail
 refine wp_region_last (mk:=fun u=> #[_,_,_,u 3,u 4,u 5,u 6,u 7,u 8,u 9,u 10,u 11,u 12,u 13,u 14,u 15,u 16,u 17]) (F:=fun slot vv ww=>(look [(3,.val (.pointer (some ⟨a,0,none⟩))),(4,.val (.pointer (some ⟨a,0,none⟩))),(5,.val (.pointer (some ⟨a,0,none⟩))),(6,.val (.int .i64 (n:Int))),(7,.val (.pointer (some ⟨a,0,none⟩))),(8,.val (.pointer (some ⟨a,0,none⟩))),(9,.val (.pointer (some ⟨a,1,none⟩))),(10,.val (.int .i64 (L:Int))),(11,.val (.pointer (some ⟨a,0,none⟩))),(12,.val (.pointer (some ⟨a,0,none⟩))),(13,.val (.pointer (some ⟨a,2,none⟩))),(14,.val (.slice ad0 ring.length c0)),(15,.is (fun q wq=>wq.ownsRow w.heap.size 5 1 q ring.length (ins .u8 (nums ring)))),(16,.is (fun q wq=> ∃ad c,q= .agg #[.int .i64 (n:Int),.int .i64 (L:Int),.slice ad ring.length c]∧wq.ownsRow w.heap.size 5 1 (.slice ad ring.length c) ring.length (ins .u8 (nums ring)))),(17,.is (fun q wq=> ∃a' v',q= .pointer (some ⟨a',0,none⟩)∧WinR wq w.heap.size a' v' n bs ring))] slot).holds vv ww) (fun _=>undef) rfl (by kernel_rfl) 15 _ rfl rfl (by kernel_rfl) ?_ (fun _ v w w' hc h=>Fact.stays _ v w w' hc h) ?_ ?_
 ·repeat (refine⟨⟨_,rfl,fun _ _=>rfl⟩,?_⟩)
  exact trivial
 ·refine⟨?_,?_,?_,?_,?_,?_,?_,?_,?_,?_,?_,?_,?_,?_,?_,trivial⟩
  ·intro u w_ hc hd K hK
   clear hd
   go_simp
   exact hK.out (.pointer (some ⟨a,0,none⟩)) w_ (Chg.refl _ _) rfl
  ·intro u w_ hc hd K hK
   have h3:(Fact.val (.pointer (some ⟨a,0,none⟩))).holds (u 3) w_:=hd.get 0 (by kernel_rfl)
   simp only [Fact.holds]at h3
   clear hd
   simp only [h3]at hK
   go_simp
   exact hK.out (.pointer (some ⟨a,0,none⟩)) w_ (Chg.refl _ _) rfl
  ·intro u w_ hc hd K hK
   have h4:(Fact.val (.pointer (some ⟨a,0,none⟩))).holds (u 4) w_:=hd.get 1 (by kernel_rfl)
   simp only [Fact.holds]at h4
   clear hd
   simp only [h4]at hK
   go_simp
   exact hK.out (.pointer (some ⟨a,0,none⟩)) w_ (Chg.refl _ _) rfl
  ·intro u w_ hc hd K hK
   have h5:(Fact.val (.pointer (some ⟨a,0,none⟩))).holds (u 5) w_:=hd.get 2 (by kernel_rfl)
   simp only [Fact.holds]at h5
   clear hd
   simp only [h5]at hK
   have hcell:=cell_chg k0 hc
   go_simp
   exact hK.out _ _ (Chg.refl _ _) rfl
  ·intro u w_ hc hd K hK
   clear hd
   go_simp
   exact hK.out (.pointer (some ⟨a,0,none⟩)) w_ (Chg.refl _ _) rfl
  ·intro u w_ hc hd K hK
   have h7:(Fact.val (.pointer (some ⟨a,0,none⟩))).holds (u 7) w_:=hd.get 4 (by kernel_rfl)
   simp only [Fact.holds]at h7
   clear hd
   simp only [h7]at hK
   go_simp
   exact hK.out (.pointer (some ⟨a,0,none⟩)) w_ (Chg.refl _ _) rfl
  ·intro u w_ hc hd K hK
   have h8:(Fact.val (.pointer (some ⟨a,0,none⟩))).holds (u 8) w_:=hd.get 5 (by kernel_rfl)
   simp only [Fact.holds]at h8
   clear hd
   simp only [h8]at hK
   go_simp
   exact hK.out (.pointer (some ⟨a,1,none⟩)) w_ (Chg.refl _ _) rfl
  ·intro u w_ hc hd K hK
   have h9:(Fact.val (.pointer (some ⟨a,1,none⟩))).holds (u 9) w_:=hd.get 6 (by kernel_rfl)
   simp only [Fact.holds]at h9
   clear hd
   simp only [h9]at hK
   have hcell:=cell_chg k1 hc
   go_simp
   exact hK.out _ _ (Chg.refl _ _) rfl
  ·intro u w_ hc hd K hK
   clear hd
   go_simp
   exact hK.out (.pointer (some ⟨a,0,none⟩)) w_ (Chg.refl _ _) rfl
  ·intro u w_ hc hd K hK
   have h11:(Fact.val (.pointer (some ⟨a,0,none⟩))).holds (u 11) w_:=hd.get 8 (by kernel_rfl)
   simp only [Fact.holds]at h11
   clear hd
   simp only [h11]at hK
   go_simp
   exact hK.out (.pointer (some ⟨a,0,none⟩)) w_ (Chg.refl _ _) rfl
  ·intro u w_ hc hd K hK
   have h12:(Fact.val (.pointer (some ⟨a,0,none⟩))).holds (u 12) w_:=hd.get 9 (by kernel_rfl)
   simp only [Fact.holds]at h12
   clear hd
   simp only [h12]at hK
   go_simp
   exact hK.out (.pointer (some ⟨a,2,none⟩)) w_ (Chg.refl _ _) rfl
  ·intro u w_ hc hd K hK
   have h13:(Fact.val (.pointer (some ⟨a,2,none⟩))).holds (u 13) w_:=hd.get 10 (by kernel_rfl)
   simp only [Fact.holds]at h13
   clear hd
   simp only [h13]at hK
   have hcell:=cell_chg k2 hc
   go_simp
   exact hK.out _ _ (Chg.refl _ _) rfl
  ·intro u w_ hc hd K hK
   have h14:(Fact.val (.slice ad0 ring.length c0)).holds (u 14) w_:=hd.get 11 (by kernel_rfl)
   simp only [Fact.holds]at h14
   clear hd
   simp only [h14]at hK
   go_simp
   go_at_call 85
   refine(bclone_any B (.slice ad0 ring.length c0) ring _ (ownsRow_keep HO.out hc (fun _ _ f=>f)) hrl).mono ?_
   rintro z w2 ⟨v2,rfl,ho2,c2⟩
   exact hK.out v2 w2 c2 ⟨w2,owns_base ho2 hc.size,Chg.refl _ _⟩
  ·intro u w_ hc hd K hK
   have h6:(Fact.val (.int .i64 (n:Int))).holds (u 6) w_:=hd.get 3 (by kernel_rfl)
   simp only [Fact.holds]at h6
   have h10:(Fact.val (.int .i64 (L:Int))).holds (u 10) w_:=hd.get 7 (by kernel_rfl)
   simp only [Fact.holds]at h10
   have h15:(Fact.is (fun q wq=>wq.ownsRow w.heap.size 5 1 q ring.length (ins .u8 (nums ring)))).holds (u 15) w_:=hd.get 12 (by kernel_rfl)
   obtain⟨q15,h15,p15⟩:=h15
   clear hd
   simp only [h6,h10]at hK
   obtain⟨ad,c,hq⟩:=form1 h15
   rw [hq]at h15
   simp only [hq]at hK
   go_simp
   exact hK.out _ _ (Chg.refl _ _) ⟨w_,⟨ad,c,rfl,ownsRow_keep h15 p15 (fun _ _ f=>f)⟩,Chg.refl _ _⟩
  ·intro u w_ hc hd K hK
   have h16:(Fact.is (fun q wq=> ∃ad c,q= .agg #[.int .i64 (n:Int),.int .i64 (L:Int),.slice ad ring.length c]∧wq.ownsRow w.heap.size 5 1 (.slice ad ring.length c) ring.length (ins .u8 (nums ring)))).holds (u 16) w_:=hd.get 13 (by kernel_rfl)
   obtain⟨q16,h16,p16⟩:=h16
   clear hd
   obtain⟨ad,c,hq,ho⟩:=h16
   simp only [hq]at hK
   go_simp
   have c2:=chg_one w_ (.cells #[.int .i64 (n:Int),.int .i64 (L:Int),.slice ad ring.length c] 137)
   exact hK.out _ _ c2 ⟨_,⟨w_.heap.size,.slice ad ring.length c,rfl,⟨hc.size,by rw [HL.out];exact heap_alloc_last _ _,ownsRow_keep (ownsRow_keep ho p16 (fun _ _ f=>f)) c2 (fun _ _ f=>f),HH.out.ok,HH.out.n1,HH.out.n2,HH.out.dig⟩⟩,Chg.refl _ _⟩
 ·intro u w_ hc hA K hK
  have H17:=hA.at 17 (by kernel_rfl)
  obtain⟨wq,⟨a',v',hq,hw⟩,cq⟩:=H17
  have HF:Hid (Win w_ w.heap.size a' v' n bs):=⟨ring,hw.new cq⟩
  have HC:Hid (Chg (fun _=>False) w w_):=hc
  clear hA hw cq hc
  go_simp
  refine hK.out _ _ ?_
  go_wp2
  go_ret
  exact⟨a',v',rfl,HF.out,HC.out⟩
theorem wlast_any' (B a:Nat)(v:Value)(n:Nat)(bs:List Nat)(d:Int)(w:World)(h:Win w B a v n bs)(hl:bs.length≤1152921504606846976)(hd:I64 d):Calls Tryz.prog 71 #[.pointer (some ⟨a,0,none⟩),.int .i64 d] w fun e w'=>((¬Inw n bs d∧e= .returned (.tuple #[.int .u8 0,.int .i64 7]))∨(Inw n bs d∧e= .returned (.tuple #[.int .u8 ((backB bs d.toNat:Nat):Int),.int .i64 0])))∧Chg (fun _=>False) w w':=by
 obtain⟨ring,h⟩:=h
 have HH:Hid _:=wholds_any d w h
 by_cases hi:Inw n bs d
 rotate_left
 ·rw [decide_eq_false hi]at HH
  have HI:Hid (¬Inw n bs d):=hi
  clear h hl hi
  go_enter Tryz.func71,Tryz.ntmps71
  go_wp2_with fail
  refine Calls.mono HH.out ?_
  rintro z w1 ⟨rfl,c1⟩
  have HC:Hid (Chg (fun _=>False) w w1):=c1
  clear c1 HH
  go_wp2
  go_ret2
  exact⟨.inl ⟨HI.out,rfl⟩,HC.out⟩
 ·rw [decide_eq_true hi]at HH
  have HI:Hid (Inw n bs d):=hi
  obtain⟨i1,i2,i3,i4⟩:=hi.nat
  obtain⟨D,hD⟩: ∃D,d.toNat=D:=⟨_,rfl⟩
  rw [hD]at i1 i2 i3 i4
  subst i4
  rw [show((D:Int)).toNat=D from Int.toNat_natCast D]
  have hDr:D≤ring.length:=by have:=h.ok.len;omega
  have hat:=h.ok.at h.n1 D i1 hDr
  have HB:Hid (∀w1,Chg (fun _=>False) w w1→Calls Tryz.prog 119 #[.pointer (some ⟨a,0,none⟩),.int .i64 (D:Int)] w1 fun e w'=>e= .returned (.int .i64 (((bs.length-D)% n:Nat):Int))∧ ∃k,w'=w1.drewN k):=fun w1 c1=>wback_any D w1 (h.new c1) hl hDr
  obtain⟨b,hb⟩: ∃b,backB bs D=b:=⟨_,rfl⟩
  obtain⟨K,hK⟩: ∃K,(bs.length-D)% n=K:=⟨_,rfl⟩
  rw [hb,hK]at hat
  rw [hK]at HB
  rw [hb]
  have HAT:Hid (ring[K]?=some b):=hat
  have hkl:K<ring.length:=(List.getElem?_eq_some_iff.1 hat).1
  have HRW:Hid (WinR w B a v n bs ring):=h
  have hrl:ring.length≤4294967295:=h.small.2.1
  clear h hat hb hK i1 i2 i3 hi hD hDr
  go_enter Tryz.func71,Tryz.ntmps71
  go_wp2_with fail
  refine Calls.mono HH.out ?_
  rintro z w1 ⟨rfl,c1⟩
  have hr1:=HRW.out.new c1
  obtain⟨ad,c,hv⟩:=form1 hr1.own
  subst hv
  obtain⟨_,_,k2,_⟩:=cells3 hr1.blk
  have hrow:Row8 w1 ad ring.length c (nums ring):=row8_own hr1.own
  obtain⟨x,rfl,hcell⟩:=row8_cell hrow HAT.out
  have HC:Hid (Chg (fun _=>False) w w1):=c1
  have HQ:Hid (∀q,Calls Tryz.prog 119 #[.pointer (some ⟨a,0,none⟩),.int .i64 (D:Int)] (w1.drewN q) fun e w'=>e= .returned (.int .i64 (K:Int))∧ ∃m,w'=w1.drewN m):=fun q=>Calls.quiet_of (HB.out _ (chg_then c1 (chg_drewN _ _)))
  clear c1 HH hr1 hrow HRW HB
  generalize ring.length=R at*
  go_wp2_with fail
  go_quiet (first|(go_at_call 119;exact HQ.out _))
  have HC2:Hid (Chg (fun _=>False) w (w1.drewN nq)):=chg_then HC.out (chg_drewN _ _)
  go_wp2
  go_ret2
  exact⟨.inr ⟨HI.out,rfl⟩,HC2.out⟩
end Go.Proofs.YthideplpcnhncaaGreatDoor
namespace Go.Proofs.YthideplpcnhncaaGreatDoor
open Go.RowKit
set_option linter.unusedVariables false
def cutA (ad:Option Addr)(c lo:Nat):Option Addr:=if c=lo then ad else ad.map (·.add lo)
theorem cutA_block {ad:Option Addr}{c lo:Nat}{x:Addr}(h:cutA ad c lo=some x): ∃y,ad=some y∧x.block=y.block:=by
 unfold cutA at h
 cases ad with
 |none=>split at h<;>cases h
 |some y=>
  refine⟨y,rfl,?_⟩
  split at h
  ·cases h;rfl
  ·simp only [Option.map_some,Option.some.injEq]at h
   subst h
   unfold Addr.add
   split<;>rfl
theorem addr_add0 (x:Addr):x.add 0=x:=by unfold Addr.add;simp
theorem sizeU8:(sizeOf 5).run Tryz.prog=fun w=> .ok 1 w:=by kernel_rfl
theorem elemU8:Tryz.prog.elem 38=5:=by kernel_rfl
theorem undB:Tryz.prog.underlying 38=some (.slice (Tryz.prog.elem 38)):=by kernel_rfl
theorem run_cut_lo (ad:Option Addr)(m c k:Nat)(w:World)(hk:k≤m):(Instr.sliceAt 38 (.slice ad m c) (some (.int .i64 (k:Int))) none none).run Tryz.prog w= .ok (.slice (cutA ad c k) (m-k) (c-k)) w:=by
 rw [run_sliceAt_slice w 38 _ _ _ _ undB,run_slice_l w 38 ad m c undB .i64 (k:Int) (by omega) (by omega),elemU8,sizeU8]
 unfold cutA sliced
 simp [Result.andThen]
theorem run_cut_hi (ad:Option Addr)(m c k:Nat)(w:World)(hk:k≤c):(Instr.sliceAt 38 (.slice ad m c) none (some (.int .i64 (k:Int))) none).run Tryz.prog w= .ok (.slice ad k c) w:=by
 rw [run_sliceAt_slice w 38 _ _ _ _ undB,run_slice_h w 38 ad m c undB .i64 (k:Int) (by omega) (by omega),elemU8,sizeU8]
 unfold sliced
 simp [Result.andThen]
 cases ad<;>simp [addr_add0]
theorem step_cut_lo {ops:Array Oper}{o:Oper}{a:Act}{w:World}{K:Act→World→Prop}{Q:Exit→Act→World→Prop}{E:Prop}(hgd:o.guard=none)(x l:Operand)(ho:o.op= .slice 38 x (some l) none none)
  (ad:Option Addr) (m c k:Nat) (hx:a.eval x= .slice ad m c) (hl:a.eval l= .int .i64 (k:Int)) (hk:k≤m) (h:K (a.put o.dst (.slice (cutA ad c k) (m-k) (c-k))) w):
  if Region.wanted o (yielded ops a.tmps)=true then Oper.wp Tryz.prog o a w K Q else E:=by
 have hw:Region.wanted o (yielded ops a.tmps)=true:=by simp [Region.wanted,hgd]
 rw [if_pos hw]
 unfold Oper.wp
 simp [execOp,ho,hx,hl,run_cut_lo ad m c k w hk,Result.andThen]
 exact h
theorem step_cut_hi {ops:Array Oper}{o:Oper}{a:Act}{w:World}{K:Act→World→Prop}{Q:Exit→Act→World→Prop}{E:Prop}(hgd:o.guard=none)(x l:Operand)(ho:o.op= .slice 38 x none (some l) none)
  (ad:Option Addr) (m c k:Nat) (hx:a.eval x= .slice ad m c) (hl:a.eval l= .int .i64 (k:Int)) (hk:k≤c) (h:K (a.put o.dst (.slice ad k c)) w):
  if Region.wanted o (yielded ops a.tmps)=true then Oper.wp Tryz.prog o a w K Q else E:=by
 have hw:Region.wanted o (yielded ops a.tmps)=true:=by simp [Region.wanted,hgd]
 rw [if_pos hw]
 unfold Oper.wp
 simp [execOp,ho,hx,hl,run_cut_hi ad m c k w hk,Result.andThen]
 exact h
theorem wpList_cut_lo {w:World}{ops:Array Oper}{rest:List Oper}{o:Oper}{a:Act}{Q:Exit→Act→World→Prop}(hgd:o.guard=none)(x l:Operand)(ho:o.op= .slice 38 x (some l) none none)
  (ad:Option Addr) (m c k:Nat) (hx:a.eval x= .slice ad m c) (hl:a.eval l= .int .i64 (k:Int)) (hk:k≤m) (h:wpList Tryz.prog ops Q rest (a.put o.dst (.slice (cutA ad c k) (m-k) (c-k))) w):wpList Tryz.prog ops Q (o::rest) a w:=by
 refine wpList_plain hgd fun K hK=> ?_
 unfold Oper.wp
 simp [execOp,ho,hx,hl,run_cut_lo ad m c k w hk,Result.andThen]
 exact hK _ _ h
theorem wpList_cut_hi {w:World}{ops:Array Oper}{rest:List Oper}{o:Oper}{a:Act}{Q:Exit→Act→World→Prop}(hgd:o.guard=none)(x l:Operand)(ho:o.op= .slice 38 x none (some l) none)
  (ad:Option Addr) (m c k:Nat) (hx:a.eval x= .slice ad m c) (hl:a.eval l= .int .i64 (k:Int)) (hk:k≤c) (h:wpList Tryz.prog ops Q rest (a.put o.dst (.slice ad k c)) w):wpList Tryz.prog ops Q (o::rest) a w:=by
 refine wpList_plain hgd fun K hK=> ?_
 unfold Oper.wp
 simp [execOp,ho,hx,hl,run_cut_hi ad m c k w hk,Result.andThen]
 exact hK _ _ h
theorem run_copy_own {P:Program}(w:World)(B:Nat)(e dT sT ty:TypeId)(hu:P.underlying dT=some (.slice e))(hsz:(P.info? e).map (·.size)=some 1)(v:Value)(n:Nat)(xs:List Value)(hown:w.ownsRow B e 1 v n xs)
  (off:Nat) (dp:Option Addr) (dLen dCap:Nat) (sp:Option Addr) (sLen sCap:Nat) (cs:List Value) (hn:cs.length=Nat.min sLen dLen) (hfit:off+cs.length≤n) (hdst:0<cs.length→ ∀g,v.ownBlock=some g→dp=some ⟨g,off,none⟩)
  (hsrc:0<cs.length→ ∃ad,sp=some ad∧ ∀j u,cs[j]?=some u→w.cell? (ad.add j)=some u) (h1: ∀u∈cs,u.oneCell'=true):
  ∃w',(Builtin.copy_ #[dT,sT] ty #[.slice dp dLen dCap,.slice sp sLen sCap]).run P w= .ok (goInt cs.length) w'∧w'.ownsRow B e 1 v n (splice xs off cs)∧Chg (fun z=>v.ownBlock=some z) w w':=by
 by_cases h0:cs.length=0
 ·obtain rfl:=List.eq_nil_of_length_eq_zero h0
  exact⟨w,run_copy_none w dT sT ty e dp sp dLen dCap sLen sCap hu hsz (by simpa using hn.symm),by simpa [splice]using hown,Chg.refl _ _⟩
 ·rcases hown.2 with⟨_,hn0⟩|⟨g,cap,cur,rfl,hB,hg,hcap,hmax,hcs,htk⟩
  ·omega
  ·obtain rfl:=hdst (by omega) g rfl
   obtain⟨ad,rfl,hs⟩:=hsrc (by omega)
   have hl:=hown.1
   rw [Nat.mul_one]at hl hcs htk
   have hrun:=run_copy_row (P:=P) w dT sT ty e g off dLen dCap ad sLen sCap cur e cs hu hsz hg hn hs (by omega) h1
   refine⟨_,hrun,⟨?_,.inr ⟨g,cap,_,rfl,hB,setRow_heap _ _ _ _ _ _ hg,hcap,hmax,?_,?_⟩⟩,⟨rfl,rfl,rfl,by simp [World.setRow],fun z _ hz=>setRow_other _ _ _ _ (fun e=>hz (by rw [e];rfl))⟩⟩
   ·rw [length_splice _ _ _ (by omega),hl,Nat.mul_one]
   ·simp
    omega
   ·rw [Nat.mul_one]
    have ht:cur.toList.take off=xs.take off:=by rw [←htk,List.take_take,Nat.min_eq_left (by omega)]
    have hlen:(cur.toList.take off).length=off:=by rw [List.length_take,Array.length_toList];omega
    simp only [splice,List.append_assoc]
    rw [List.take_append,hlen,List.take_append,←ht,List.take_of_length_le (by rw [hlen];omega),List.take_of_length_le (show cs.length≤n-off by omega),List.take_drop,←htk,List.drop_take]
    congr 2
    rw [List.drop_take]
    congr 1
    omega
theorem step_copy_own {P:Program}{ops:Array Oper}{o:Oper}{a:Act}{w:World}{K:Act→World→Prop}{Q:Exit→Act→World→Prop}{E:Prop}(hgd:o.guard=none)(d s:Operand)(dT sT:TypeId)
  (ho:o.op= .call {callee:= .builtin .copy,args:= #[d,s],argTypes:= #[dT,sT]}) (B:Nat) (e:TypeId) (hu:P.underlying dT=some (.slice e)) (hsz:(P.info? e).map (·.size)=some 1) (v:Value) (n:Nat) (xs:List Value) (hown:w.ownsRow B e 1 v n xs)
  (off:Nat) (dp:Option Addr) (dLen dCap:Nat) (hd:a.eval d= .slice dp dLen dCap) (sp:Option Addr) (sLen sCap:Nat) (hs:a.eval s= .slice sp sLen sCap) (cs:List Value) (hn:cs.length=Nat.min sLen dLen) (hfit:off+cs.length≤n) (hdst:0<cs.length→ ∀g,v.ownBlock=some g→dp=some ⟨g,off,none⟩)
  (hsrc:0<cs.length→ ∃ad,sp=some ad∧ ∀j u,cs[j]?=some u→w.cell? (ad.add j)=some u) (h1: ∀u∈cs,u.oneCell'=true)
  (h: ∀w',w'.ownsRow B e 1 v n (splice xs off cs)→Chg (fun z=>v.ownBlock=some z) w w'→K (a.put o.dst (goInt cs.length)) w'):
  if Region.wanted o (yielded ops a.tmps)=true then Oper.wp P o a w K Q else E:=by
 have hw:Region.wanted o (yielded ops a.tmps)=true:=by simp [Region.wanted,hgd]
 rw [if_pos hw]
 obtain⟨w',hrun,q1,q2⟩:=run_copy_own (P:=P) w B e dT sT o.type hu hsz v n xs hown off dp dLen dCap sp sLen sCap cs hn hfit hdst hsrc h1
 unfold Oper.wp
 simp [execOp,ho,resolve,invoke,builtin,hd,hs,hrun,Result.andThen]
 exact h w' q1 q2
end Go.Proofs.YthideplpcnhncaaGreatDoor
namespace Go.Proofs.YthideplpcnhncaaGreatDoor
open Go.RowKit
set_option linter.unusedVariables false
theorem min_int {m D k:Nat}(h:min m D=k):(if D<m then(D:Int)else(m:Int))=(k:Int):=by split<;>omega
def GrowJ (w1:World)(B:Nat)(v:Value)(N:Nat)(xs:List Value):Nat→Value→World→Prop
 |0,_,w=>Chg (fun _=>False) w1 w
 |_+1,x,w=> ∃a9 d9,x= .slice a9 N d9∧w.ownsRow B 5 1 x N xs∧Chg (fun z=>v.ownBlock=some z) w1 w∧Moved w1 v x
set_option maxHeartbeats 4000000 in
set_option maxRecDepth 100000 in
theorem wgrow_any {B a:Nat}{v:Value}{n:Nat}{bs ring:List Nat}(ad:Option Addr)(m c:Nat)(xs:List Nat)(w:World)(h:WinR w B a v n bs ring)(hB:B≤w.heap.size)(hr:Row8 w ad m c (nums xs))(hdig:Rc.Dig xs)(hap: ∀x,ad=some x→ ¬Foot a v x.block)(hmc:m≤c)(hm:m≤140737488355328)(hl:bs.length+m≤1152921504606846976)(k:Nat)(hk:min m (n-ring.length)=k):
  Calls Tryz.prog 92 #[.pointer (some ⟨a,0,none⟩),.slice ad m c] w fun e w'=>e= .returned (.slice (cutA ad c k) (m-k) (c-k))∧ ∃v',WinR w' B a v' n (bs++xs.take k) (ring++xs.take k)∧Chg (Foot a v) w w'∧Moved w v v':=by
 obtain⟨iu,hiu,hu0,hu1,hu2⟩:=info_parts infoU8
 obtain⟨ad0,c0,hv⟩:=form1 h.own
 obtain⟨ys,hys⟩: ∃ys,xs.take k=ys:=⟨_,rfl⟩
 have hmx:xs.length=m:=by have:=hr.1;rw [nums_len]at this;exact this
 have hyl:ys.length=k:=by rw [←hys,List.length_take];omega
 have hrow:Row8 w ad k c (nums ys):=by
  have:=row8_cut hr hmc 0 k c (by omega) (fun e=>e)
  rw [nums_cut,List.drop_zero,hys]at this
  have e:(if c=0 then ad else ad.map (·.add 0))=ad:=by cases ad<;>simp [addr_add0]
  rwa [e]at this
 have HRM:Hid (RM n (bs++ys) (ring++ys)):=h.ok.grow h.n1 ys (by omega)
 have HDG:Hid (Rc.Dig (bs++ys)):=fun x hx=>by
  rcases List.mem_append.1 hx with f|f
  ·exact h.dig x f
  ·exact hdig x (by rw [←hys]at f;exact List.mem_of_mem_take f)
 have hone:=one8 ys
 obtain⟨R,hR⟩: ∃R,ring.length=R:=⟨_,rfl⟩
 obtain⟨L,hL⟩: ∃L,bs.length=L:=⟨_,rfl⟩
 rw [hR]at hv hk
 obtain⟨D,hD⟩: ∃D,n-R=D:=⟨_,rfl⟩
 rw [hD]at hk
 have hmin:=min_int hk
 have hs:=h.small
 have hDi:(n:Int)-(R:Int)=(D:Int):=by omega
 have hn2:(n:Int)≤4294967295:=by have:=h.n2;omega
 have hDb:(D:Int)≤4294967295:=by omega
 have hwr:IntKind.i64.wrap (D:Int)=(D:Int):=wr64 (by omega) (by omega)
 have hRb:(R:Int)≤4294967295:=by omega
 have hmb:(m:Int)≤140737488355328:=by omega
 have hkm:k≤m:=by omega
 have hkc:k≤c:=by omega
 have hkD:k≤D:=by omega
 have hLk:(L:Int)+(k:Int)≤1152921504606846976:=by omega
 have HH:Hid (WinR w B a (.slice ad0 R c0) n bs ring):=by rw [←hv];exact h
 have HNE:Hid ((Value.slice ad0 R c0).ownBlock≠some a):=by rw [←hv];exact h.ne
 have HRL:Hid (ring.length=R∧bs.length=L∧ys.length=k):=⟨hR,hL,hyl⟩
 have HO:Hid (w.ownsRow B 5 1 (.slice ad0 R c0) R (ins .u8 (nums ring))):=by have:=h.own;rw [hR,hv]at this;exact this
 have HBK:Hid (w.heap[a]?=some (.cells #[.int .i64 (n:Int),.int .i64 (L:Int),.slice ad0 R c0] 137 (0,0))):=by have:=h.blk;rw [hL,hv]at this;exact this
 have HROW:Hid (Row8 w ad k c (nums ys)):=hrow
 obtain⟨k0,k1,k2,hf⟩:=cells3 HBK.out
 rw [hys,hv]
 clear h hr hap hdig hl hk hmx hyl hrow hs hD hys hR hL hv
 go_enter Tryz.func92,Tryz.ntmps92
 go_wp2_with fail
 refine wp_region_last (mk:=fun u=> #[_,_,_,_,_,_,u 6,u 7,u 8,u 9,u 10,u 11,u 12,u 13,u 14,u 15,u 16,u 17,u 18,_,_,_,_,_,_,_,_,_,_,_,_,_,_,_,_,_,_,_,_,_,_]) (F:=fun slot vv ww=>(look [(6,.val (.slice ad m c)),(7,.val (.int .i64 (m:Int))),(8,.val (.pointer (some ⟨a,0,none⟩))),(9,.val (.pointer (some ⟨a,0,none⟩))),(10,.val (.pointer (some ⟨a,0,none⟩))),(11,.val (.int .i64 (n:Int))),(12,.val (.pointer (some ⟨a,0,none⟩))),(13,.val (.pointer (some ⟨a,0,none⟩))),(14,.val (.pointer (some ⟨a,2,none⟩))),(15,.val (.slice ad0 R c0)),(16,.val (.int .i64 (R:Int))),(17,.val (.int .i64 (D:Int))),(18,.val (.int .i64 (k:Int)))] slot).holds vv ww) (fun _=>undef) rfl (by kernel_rfl) 13 _ rfl rfl (by kernel_rfl) ?_ (fun _ v w w' hc h=>Fact.stays _ v w w' hc h) ?_ ?_
 ·repeat (refine⟨⟨_,rfl,fun _ _=>rfl⟩,?_⟩)
  exact trivial
 ·refine⟨?_,?_,?_,?_,?_,?_,?_,?_,?_,?_,?_,?_,?_,trivial⟩
  ·intro u w_ hc hd K hK
   clear hd
   go_simp
   exact hK.out (.slice ad m c) w_ (Chg.refl _ _) rfl
  ·intro u w_ hc hd K hK
   have h6:(Fact.val (.slice ad m c)).holds (u 6) w_:=hd.get 0 (by kernel_rfl)
   simp only [Fact.holds]at h6
   clear hd
   simp only [h6]at hK
   go_simp
   exact hK.out (.int .i64 (m:Int)) w_ (Chg.refl _ _) rfl
  ·intro u w_ hc hd K hK
   clear hd
   go_simp
   exact hK.out (.pointer (some ⟨a,0,none⟩)) w_ (Chg.refl _ _) rfl
  ·intro u w_ hc hd K hK
   have h8:(Fact.val (.pointer (some ⟨a,0,none⟩))).holds (u 8) w_:=hd.get 2 (by kernel_rfl)
   simp only [Fact.holds]at h8
   clear hd
   simp only [h8]at hK
   go_simp
   exact hK.out (.pointer (some ⟨a,0,none⟩)) w_ (Chg.refl _ _) rfl
  ·intro u w_ hc hd K hK
   have h9:(Fact.val (.pointer (some ⟨a,0,none⟩))).holds (u 9) w_:=hd.get 3 (by kernel_rfl)
   simp only [Fact.holds]at h9
   clear hd
   simp only [h9]at hK
   go_simp
   exact hK.out (.pointer (some ⟨a,0,none⟩)) w_ (Chg.refl _ _) rfl
  ·intro u w_ hc hd K hK
   have h10:(Fact.val (.pointer (some ⟨a,0,none⟩))).holds (u 10) w_:=hd.get 4 (by kernel_rfl)
   simp only [Fact.holds]at h10
   clear hd
   simp only [h10]at hK
   have hcell:=cell_chg k0 hc
   go_simp
   exact hK.out _ _ (Chg.refl _ _) rfl
  ·intro u w_ hc hd K hK
   clear hd
   go_simp
   exact hK.out (.pointer (some ⟨a,0,none⟩)) w_ (Chg.refl _ _) rfl
  ·intro u w_ hc hd K hK
   have h12:(Fact.val (.pointer (some ⟨a,0,none⟩))).holds (u 12) w_:=hd.get 6 (by kernel_rfl)
   simp only [Fact.holds]at h12
   clear hd
   simp only [h12]at hK
   go_simp
   exact hK.out (.pointer (some ⟨a,0,none⟩)) w_ (Chg.refl _ _) rfl
  ·intro u w_ hc hd K hK
   have h13:(Fact.val (.pointer (some ⟨a,0,none⟩))).holds (u 13) w_:=hd.get 7 (by kernel_rfl)
   simp only [Fact.holds]at h13
   clear hd
   simp only [h13]at hK
   go_simp
   exact hK.out (.pointer (some ⟨a,2,none⟩)) w_ (Chg.refl _ _) rfl
  ·intro u w_ hc hd K hK
   have h14:(Fact.val (.pointer (some ⟨a,2,none⟩))).holds (u 14) w_:=hd.get 8 (by kernel_rfl)
   simp only [Fact.holds]at h14
   clear hd
   simp only [h14]at hK
   have hcell:=cell_chg k2 hc
   go_simp
   exact hK.out _ _ (Chg.refl _ _) rfl
  ·intro u w_ hc hd K hK
   have h15:(Fact.val (.slice ad0 R c0)).holds (u 15) w_:=hd.get 9 (by kernel_rfl)
   simp only [Fact.holds]at h15
   clear hd
   simp only [h15]at hK
   go_simp
   exact hK.out (.int .i64 (R:Int)) w_ (Chg.refl _ _) rfl
  ·intro u w_ hc hd K hK
   have h11:(Fact.val (.int .i64 (n:Int))).holds (u 11) w_:=hd.get 5 (by kernel_rfl)
   simp only [Fact.holds]at h11
   have h16:(Fact.val (.int .i64 (R:Int))).holds (u 16) w_:=hd.get 10 (by kernel_rfl)
   simp only [Fact.holds]at h16
   clear hd
   simp only [h11,h16]at hK
   go_simp
   exact hK.out (.int .i64 (D:Int)) w_ (Chg.refl _ _) rfl
  ·intro u w_ hc hd K hK
   have h7:(Fact.val (.int .i64 (m:Int))).holds (u 7) w_:=hd.get 1 (by kernel_rfl)
   simp only [Fact.holds]at h7
   have h17:(Fact.val (.int .i64 (D:Int))).holds (u 17) w_:=hd.get 11 (by kernel_rfl)
   simp only [Fact.holds]at h17
   clear hd
   simp only [h7,h17]at hK
   go_simp
   first|rw [hmin]|skip
   exact hK.out _ _ (Chg.refl _ _) rfl
 ·intro u w1 hc hA K hK
  have h18:u 18= .int .i64 (k:Int):=hA.at 18 (by kernel_rfl)
  have HC1:Hid (Chg (fun _=>False) w w1):=hc
  have HO1:Hid (w1.ownsRow B 5 1 (.slice ad0 R c0) R (ins .u8 (nums ring))):=ownsRow_keep HO.out hc (fun _ _ f=>f)
  have HY1:Hid (Row8 w1 ad k c (nums ys)):=Bk.row8_chg HROW.out hc
  have HB1:Hid (B≤w1.heap.size):=Nat.le_trans hB hc.size
  have HBK1:Hid (w1.heap[a]?=some (.cells #[.int .i64 (n:Int),.int .i64 (L:Int),.slice ad0 R c0] 137 (0,0))):=blk_keep HBK.out hc (fun f=>f)
  clear hA hc k0 k1 k2 hf HO HROW HBK
  go_simp
  refine hK.out _ _ ?_
  clear hK h18 K
  go_wp2_with fail
  refine wp_region_phase (mk:=fun u=> #[_,_,_,_,_,_,_,_,_,_,_,_,_,_,_,_,_,_,_,u 19,u 20,u 21,u 22,u 23,u 24,u 25,u 26,u 27,u 28,u 29,_,_,_,_,_,_,_,_,_,_,_]) (G:=lookG [(19,.pointer (some ⟨a,0,none⟩)),(20,.pointer (some ⟨a,0,none⟩)),(21,.pointer (some ⟨a,0,none⟩)),(22,.pointer (some ⟨a,2,none⟩)),(23,.slice ad0 R c0),(24,.slice ad m c),(25,.int .i64 (k:Int)),(26,.slice ad k c),(28,.pointer (some ⟨a,0,none⟩)),(29,.pointer (some ⟨a,2,none⟩))]) (J:=fun q u ww=>ww.heap[a]?=some (.cells #[.int .i64 (n:Int),.int .i64 (L:Int),.slice ad0 R c0] 137 (0,0))∧GrowJ w1 B (.slice ad0 R c0) (R+k) (ins .u8 (nums (ring++ys))) q (u 27) ww) [8] (fun _=>undef) rfl (by kernel_rfl) 11 _ rfl rfl (by kernel_rfl) (by kernel_rfl) (by kernel_rfl) (by decide) ?_ ?_ ?_ ?_ ?_
  ·repeat (refine⟨⟨_,rfl,fun _ _=>rfl⟩,?_⟩)
   exact trivial
  ·intro q u u2 ww h hj
   have e27:u 27=u2 27:=h 8 (by decide)
   show _∧GrowJ w1 B (.slice ad0 R c0) (R+k) (ins .u8 (nums (ring++ys))) q (u2 27) ww
   rw [←e27]
   exact hj
  ·exact⟨blk_keep HBK1.out (Chg.refl (fun _=>False) w1).drew (fun f=>f),(Chg.refl _ w1).drew⟩
  ·refine⟨?_,?_,?_,?_,?_,?_,?_,?_,?_,?_,?_,trivial⟩
   ·show StepR _ _ _ _ _ _ _
    unfold StepR
    intro q u w_ hj hd K hK
    clear hd
    go_simp
    exact hK.out (.pointer (some ⟨a,0,none⟩)) rfl
   ·show StepR _ _ _ _ _ _ _
    unfold StepR
    intro q u w_ hj hd K hK
    clear hd
    go_simp
    exact hK.out (.pointer (some ⟨a,0,none⟩)) rfl
   ·show StepR _ _ _ _ _ _ _
    unfold StepR
    intro q u w_ hj hd K hK
    have h20:u 20= .pointer (some ⟨a,0,none⟩):=hd.get 1 (by kernel_rfl)
    clear hd
    simp only [h20]at hK
    go_simp
    exact hK.out (.pointer (some ⟨a,0,none⟩)) rfl
   ·show StepR _ _ _ _ _ _ _
    unfold StepR
    intro q u w_ hj hd K hK
    have h21:u 21= .pointer (some ⟨a,0,none⟩):=hd.get 2 (by kernel_rfl)
    clear hd
    simp only [h21]at hK
    go_simp
    exact hK.out (.pointer (some ⟨a,2,none⟩)) rfl
   ·show StepR _ _ _ _ _ _ _
    unfold StepR
    intro q u w_ hj hd K hK
    have h22:u 22= .pointer (some ⟨a,2,none⟩):=hd.get 3 (by kernel_rfl)
    clear hd
    simp only [h22]at hK
    obtain⟨_,_,hcell,_⟩:=cells3 hj.1
    go_simp
    exact hK.out _ rfl
   ·show StepR _ _ _ _ _ _ _
    unfold StepR
    intro q u w_ hj hd K hK
    clear hd
    go_simp
    exact hK.out (.slice ad m c) rfl
   ·show StepR _ _ _ _ _ _ _
    unfold StepR
    intro q u w_ hj hd K hK
    clear hd
    go_simp
    exact hK.out (.int .i64 (k:Int)) rfl
   ·show StepR _ _ _ _ _ _ _
    unfold StepR
    intro q u w_ hj hd K hK
    have h24:u 24= .slice ad m c:=hd.get 5 (by kernel_rfl)
    have h25:u 25= .int .i64 (k:Int):=hd.get 6 (by kernel_rfl)
    clear hd
    refine step_cut_hi (a:=⟨_,[]⟩) (by rfl) (.tmp 24) (.tmp 25) (by rfl) ad m c k (by exact h24) (by exact h25) hkc (hK.out _ rfl)
   ·show StepW _ _ _ _ _ _ 0 _
    unfold StepW
    intro u w_ hj hd K hK
    have h23:u 23= .slice ad0 R c0:=hd.get 4 (by kernel_rfl)
    have h26:u 26= .slice ad k c:=hd.get 7 (by kernel_rfl)
    clear hd
    obtain⟨hb,hc⟩:=hj
    have hc:Chg (fun _=>False) w1 w_:=hc
    refine step_append_moved (a:=⟨_,[]⟩) (by rfl) (.tmp 23) (.tmp 26) 38 (by rfl) B 5 iu (.int .u8 0) 1 1 Tryz.underlying38 hiu hu0 hu1 hu2 rfl (by decide) (.slice ad0 R c0) R (ins .u8 (nums ring)) (by exact h23) ad k c (by exact h26) ((nums ys).map (Value.int .u8)) (ownsRow_keep HO1.out hc (fun _ _ f=>f)) (Bk.row8_chg HY1.out hc).src hone (by unfold maxLen;omega) (by omega) (Nat.le_trans HB1.out hc.size) ?_
    intro v2 w2 ho hg hm
    have ho2:=own_app ho
    obtain⟨a9,d9,hv9⟩:=form1 ho2
    have cc:Chg (fun z=>(Value.slice ad0 R c0).ownBlock=some z) w_ w2:=(Chg.refl _ w_).grown hg (fun z e=> .inl e)
    exact hK.out v2 w2 ⟨blk_keep hb cc (fun f=>HNE.out f),a9,d9,hv9,ho2,(hc.mono (fun _ f=>f.elim)).trans cc (fun z f=> .inl f),moved_from hc.size hm⟩ trivial
   ·show StepR _ _ _ _ _ _ _
    unfold StepR
    intro q u w_ hj hd K hK
    have h19:u 19= .pointer (some ⟨a,0,none⟩):=hd.get 0 (by kernel_rfl)
    clear hd
    simp only [h19]at hK
    go_simp
    exact hK.out (.pointer (some ⟨a,0,none⟩)) rfl
   ·show StepR _ _ _ _ _ _ _
    unfold StepR
    intro q u w_ hj hd K hK
    have h28:u 28= .pointer (some ⟨a,0,none⟩):=hd.get 9 (by kernel_rfl)
    clear hd
    simp only [h28]at hK
    go_simp
    exact hK.out (.pointer (some ⟨a,2,none⟩)) rfl
  ·intro u w2 hj hA K hK
   obtain⟨hb2,a9,d9,h27,ho2,c2,hm2⟩:=hj
   have hG:=HRL.out
   have b3:=set3 hb2 2 (.slice a9 (R+k) d9)
   have b4:=set3 b3 1 (.int .i64 ((L:Int)+(k:Int)))
   have cS:Chg (fun z=>z=a) w2 ((w2.setCell ⟨a,2,none⟩ (.slice a9 (R+k) d9)).setCell ⟨a,1,none⟩ (.int .i64 ((L:Int)+(k:Int)))):=((Chg.refl (fun z=>z=a) w2).setCell (p:=⟨a,2,none⟩) (.inl rfl) _).setCell (p:=⟨a,1,none⟩) (.inl rfl) _
   rw [h27]at ho2 hm2
   have HW:Hid (WinR ((w2.setCell ⟨a,2,none⟩ (.slice a9 (R+k) d9)).setCell ⟨a,1,none⟩ (.int .i64 ((L:Int)+(k:Int)))) B a (.slice a9 (R+k) d9) n (bs++ys) (ring++ys)):=by
    refine⟨HH.out.hr,?_,ownsRow_keep (by rw [List.length_append,hG.1,hG.2.2];exact ho2) cS (fun g e f=> ?_),HRM.out,HH.out.n1,HH.out.n2,HDG.out⟩
    ·rw [List.length_append,hG.2.1,hG.2.2,Int.natCast_add]
     exact b4
    ·rw [f]at e
     obtain⟨cur,hcur⟩:=owns_blk ho2 e
     exact ty_ne hcur hb2 (by decide)
   have HC:Hid (Chg (Foot a (.slice ad0 R c0)) w ((w2.setCell ⟨a,2,none⟩ (.slice a9 (R+k) d9)).setCell ⟨a,1,none⟩ (.int .i64 ((L:Int)+(k:Int))))):=((HC1.out.mono (fun _ f=>f.elim)).trans c2 (fun z f=> .inl (.inr f))).trans cS (fun z f=> .inl (.inl f))
   have HM:Hid (Moved w (.slice ad0 R c0) (.slice a9 (R+k) d9)):=moved_from HC1.out.size hm2
   obtain⟨_,_,q2,qf⟩:=cells3 hb2
   obtain⟨_,q1,_,qg⟩:=cells3 b3
   have h29:u 29= .pointer (some ⟨a,2,none⟩):=hA.at 29 (by kernel_rfl)
   clear hA hG b3 b4 cS ho2 c2 hm2 hb2
   go_simp
   refine hK.out _ _ ?_
   clear hK h27 h29 K
   go_wp2_with (refine wpList_cut_lo rfl _ _ rfl ad m c k rfl rfl hkm ?_)
   go_ret
   exact⟨rfl,_,HW.out,HC.out,HM.out⟩
end Go.Proofs.YthideplpcnhncaaGreatDoor
namespace Go.Proofs.YthideplpcnhncaaGreatDoor
open Go.RowKit
set_option linter.unusedVariables false
theorem row8_drop {w:World}{ad:Option Addr}{m c:Nat}{xs:List Int}(h:Row8 w ad m c xs)(k:Nat)(hk:k≤m)(hmc:m≤c):Row8 w (cutA ad c k) (m-k) (c-k) (xs.drop k):=by
 have hl:=h.1
 refine⟨by rw [List.length_drop];omega,?_⟩
 unfold cutA
 rcases h.2 with⟨rfl,rfl,rfl⟩|⟨x,rfl,hx⟩
 ·exact .inl ⟨by simp,by omega,by omega⟩
 ·by_cases e:c=k
  ·rw [if_pos e]
   refine .inr ⟨x,rfl,fun j u hu=> ?_⟩
   rw [List.drop_eq_nil_of_le (by omega)]at hu
   cases hu
  ·rw [if_neg e]
   refine .inr ⟨_,rfl,fun j u hu=> ?_⟩
   rw [List.map_drop,List.getElem?_drop]at hu
   have:=hx (k+j) u hu
   rw [addr_add]
   exact this
def lenV:Value→Nat
 | .slice _ n _=>n
 |_=>0
def LayJ (w1:World)(B:Nat)(v:Value)(N:Nat)(xs:List Value):Nat→World→Prop
 |0,w=>Chg (fun _=>False) w1 w
 |_+1,w=>w.ownsRow B 5 1 v N xs∧Chg (fun z=>v.ownBlock=some z) w1 w
theorem sizeInfo8:(Tryz.prog.info? 5).map (·.size)=some 1:=by kernel_rfl
theorem src_front {w:World}{ad:Option Addr}{m c:Nat}{zs ys rest:List Nat}(h:Row8 w ad m c (nums zs))(e:zs=ys++rest)(h0:0<((nums ys).map (Value.int .u8)).length): ∃x,ad=some x∧ ∀j u,((nums ys).map (Value.int .u8))[j]?=some u→w.cell? (x.add j)=some u:=by
 rw [List.length_map,nums_len]at h0
 rcases h.2 with⟨_,em,_⟩|⟨x,rfl,hx⟩
 ·have:=h.1
  rw [nums_len,e,List.length_append]at this
  omega
 ·refine⟨x,rfl,fun j u hu=>hx j u ?_⟩
  rw [e,nums_append,List.map_append,List.getElem?_append_left]
  ·exact hu
  ·exact(List.getElem?_eq_some_iff.1 hu).1
theorem dst_at {w:World}{B:Nat}{ad:Option Addr}{n c:Nat}{xs:List Value}(h:w.ownsRow B 5 1 (.slice ad n c) n xs)(p:Nat)(hp:p<n): ∀g,(Value.slice ad n c).ownBlock=some g→cutA ad c p=some ⟨g,p,none⟩:=fun g e=>by
 have hc:=own_cap h
 rcases h.2 with⟨e0,e1⟩|⟨g',cap,cur,e0,_⟩
 ·omega
 ·simp only [Value.slice.injEq,true_and]at e0
  obtain⟨rfl,rfl⟩:=e0
  simp only [Value.ownBlock,Option.some.injEq]at e
  subst e
  unfold cutA
  rw [if_neg (by omega)]
  simp only [Option.map_some,Option.some.injEq]
  unfold Addr.add
  split
  ·rename_i h0;rw [h0]
  ·simp
theorem splice_nums (ring ys:List Nat)(p:Nat):splice (ins .u8 (nums ring)) p ((nums ys).map (Value.int .u8))=ins .u8 (nums (ring.take p++(ys++ring.drop (p+ys.length)))):=by
 simp [splice,ins,nums,List.map_take,List.map_drop]
set_option maxHeartbeats 4000000 in
set_option maxRecDepth 100000 in
theorem wlay_any {B a:Nat}{v:Value}{n:Nat}{bs ring0:List Nat}(ad:Option Addr)(m c:Nat)(xs:List Nat)(w:World)(h:WinR w B a v n bs ring0)(hr:Row8 w ad m c (nums xs))(hdig:Rc.Dig xs)(hap:0<m→ ∀x,ad=some x→ ¬Foot a v x.block)(hmc:m≤c)(hm:m≤140737488355328)(hl:bs.length+m≤1152921504606846976)(hfull:0<m→ring0.length=n):
  Calls Tryz.prog 91 #[.pointer (some ⟨a,0,none⟩),.slice ad m c] w fun e w'=>e= .returned (.tuple #[])∧Win w' B a v n (bs++xs)∧Chg (Foot a v) w w':=by
 have HH:Hid (WinR w B a v n bs ring0):=h
 have HR:Hid (Row8 w ad m c (nums xs)):=hr
 have HD:Hid (Rc.Dig xs):=hdig
 have HA:Hid (0<m→ ∀x,ad=some x→ ¬Foot a v x.block):=hap
 have HF:Hid (0<m→ring0.length=n):=hfull
 have HL:Hid ((bs++xs).length≤1152921504606846976):=by show _≤_;rw [List.length_append];have:=hr.1;rw [nums_len]at this;omega
 clear h hr hdig hap hfull hl
 go_enter Tryz.func91,Tryz.ntmps91
 go_wp2_with fail
 go_loopw [1] (fun bv wr=> ∃adr M cr qs zs ring,bv= .slice adr M cr∧M≤cr∧M≤140737488355328∧Hid (Row8 wr adr M cr (nums zs))∧Hid (WinR wr B a v n qs ring)∧Hid (qs++zs=bs++xs)∧Hid (Chg (Foot a v) w wr)∧Hid (0<M→ ∀x,adr=some x→ ¬Foot a v x.block)∧Hid (0<M→ring.length=n)∧Hid (Rc.Dig zs)) (fun bv _=>lenV bv)
 case atStart=>exact⟨ad,m,c,bs,xs,ring0,rfl,hmc,hm,HR.out,HH.out,rfl,Chg.refl _ _,HA.out,HF.out,HD.out⟩
 case round=>
  clear HH HR HD HA HF
  obtain⟨adr,M,cr,qs,zs,ring,rfl,hMc,hM,HROW,HW,HE,HC,HAP,HFU,HDZ⟩:=hrel
  have hzl:zs.length=M:=by have:=HROW.out.1;rw [nums_len]at this;exact this
  by_cases h0:0<M
  ·have hd:decide (0<M)=true:=decide_eq_true h0
   have hRn:=HFU.out h0
   have HAPP:Hid (∀x,adr=some x→ ¬Foot a v x.block):=HAP.out h0
   obtain⟨ad0,c0,hv⟩:=form1 HW.out.own
   rw [hRn]at hv
   obtain⟨L,hL⟩: ∃L,qs.length=L:=⟨_,rfl⟩
   obtain⟨p,hp⟩: ∃p,L% n=p:=⟨_,rfl⟩
   have htm:=tmod_nat L n
   rw [hp]at htm
   have hn1:(1:Int)≤(n:Int):=by have:=HW.out.n1;omega
   have hn0:(n:Int)≠0:=by omega
   have hnz: ¬n=0:=by omega
   have hn2:(n:Int)≤4294967295:=by have:=HW.out.n2;omega
   have hplt:p<n:=by rw [←hp];exact Nat.mod_lt _ HW.out.n1
   have hpn:p≤n:=by omega
   have hpb:(p:Int)≤4294967295:=by omega
   obtain⟨k,hk⟩: ∃k,Nat.min M (n-p)=k:=⟨_,rfl⟩
   have hkm:k≤M:=by rw [←hk];exact Nat.min_le_left _ _
   have hkp:k≤n-p:=by rw [←hk];exact Nat.min_le_right _ _
   have hk1:0<k:=by rw [←hk];exact Nat.lt_min.2 ⟨h0,by omega⟩
   obtain⟨ys,hys⟩: ∃ys,zs.take k=ys:=⟨_,rfl⟩
   obtain⟨rs,hrs⟩: ∃rs,zs.drop k=rs:=⟨_,rfl⟩
   have hyr:zs=ys++rs:=by rw [←hys,←hrs,List.take_append_drop]
   have hyl:ys.length=k:=by rw [←hys,List.length_take];omega
   have HYS:Hid (zs=ys++rs):=hyr
   have HYL:Hid (ys.length=k):=hyl
   have hone:=one8 ys
   have hLb:(L:Int)+(k:Int)≤1152921504606846976:=by
    have h1:=HL.out
    rw [←HE.out,List.length_append,hzl,hL]at h1
    omega
   have HLN:Hid (((nums ys).map (Value.int .u8)).length=Nat.min M (n-p)):=by show _=_;rw [List.length_map,nums_len,hyl,hk]
   have HFIT:Hid (p+((nums ys).map (Value.int .u8)).length≤n):=by show _≤_;rw [List.length_map,nums_len,hyl];omega
   have HO:Hid (wr.ownsRow B 5 1 (.slice ad0 n c0) n (ins .u8 (nums ring))):=by have:=HW.out.own;rw [hRn,hv]at this;exact this
   have HDST:Hid (∀g,(Value.slice ad0 n c0).ownBlock=some g→cutA ad0 c0 p=some ⟨g,p,none⟩):=dst_at HO.out p hplt
   have HBK:Hid (wr.heap[a]?=some (.cells #[.int .i64 (n:Int),.int .i64 (L:Int),.slice ad0 n c0] 137 (0,0))):=by have:=HW.out.blk;rw [hL,hv]at this;exact this
   have HNE:Hid ((Value.slice ad0 n c0).ownBlock≠some a):=by rw [←hv];exact HW.out.ne
   have HRM:Hid (RM n (qs++ys) (ring.take p++(ys++ring.drop (p+ys.length)))):=by
    have:=HW.out.ok.lay HW.out.n1 hRn ys (by rw [hL,hp,hyl];omega)
    rw [hL,hp]at this
    exact this
   have HDG:Hid (Rc.Dig (qs++ys)):=fun x hx=>by
    rcases List.mem_append.1 hx with f|f
    ·exact HW.out.dig x f
    ·exact HDZ.out x (by rw [hyr];exact List.mem_append_left _ f)
   have HFX:Hid (v= .slice ad0 n c0∧qs.length=L∧ring.length=n∧zs.length=M∧zs.drop k=rs):=⟨hv,hL,hRn,hzl,hrs⟩
   clear hv hL hp hk hyr hyl hys hzl hRn hrs h0
   go_wp2_with fail
   refine wp_region_phase (mk:=fun u=> #[_,_,_,_,_,_,_,_,u 8,u 9,u 10,u 11,u 12,u 13,u 14,u 15,u 16,u 17,u 18,u 19,u 20,u 21,u 22,u 23,_,_,_,_,_,_,_,_,_,_,_]) (G:=lookG [(8,.pointer (some ⟨a,0,none⟩)),(9,.pointer (some ⟨a,0,none⟩)),(10,.pointer (some ⟨a,2,none⟩)),(11,.slice ad0 n c0),(12,.pointer (some ⟨a,0,none⟩)),(13,.pointer (some ⟨a,0,none⟩)),(14,.pointer (some ⟨a,1,none⟩)),(15,.int .i64 (L:Int)),(16,.pointer (some ⟨a,0,none⟩)),(17,.pointer (some ⟨a,0,none⟩)),(18,.pointer (some ⟨a,0,none⟩)),(19,.int .i64 (n:Int)),(20,.int .i64 (p:Int)),(21,.slice (cutA ad0 c0 p) (n-p) (c0-p)),(22,.slice adr M cr),(23,.int .i64 (k:Int))]) (J:=fun q _ ww=>ww.heap[a]?=some (.cells #[.int .i64 (n:Int),.int .i64 (L:Int),.slice ad0 n c0] 137 (0,0))∧LayJ wr B (.slice ad0 n c0) n (splice (ins .u8 (nums ring)) p ((nums ys).map (Value.int .u8))) q ww) [15] (fun t=>match t with|8=>u8|9=>u9|10=>u10|11=>u11|12=>u12|13=>u13|14=>u14|15=>u15|16=>u16|17=>u17|18=>u18|19=>u19|20=>u20|21=>u21|22=>u22|23=>u23|_=>undef) rfl (by kernel_rfl) 16 _ rfl rfl (by kernel_rfl) (by kernel_rfl) (by kernel_rfl) (by decide) ?_ ?_ ?_ ?_ ?_
   ·repeat (refine⟨⟨_,rfl,fun _ _=>rfl⟩,?_⟩)
    exact trivial
   ·exact fun q u u2 ww _ h=>h
   ·exact⟨blk_keep HBK.out (Chg.refl (fun _=>False) wr).drew (fun f=>f),(Chg.refl _ wr).drew⟩
   ·refine⟨?_,?_,?_,?_,?_,?_,?_,?_,?_,?_,?_,?_,?_,?_,?_,?_,trivial⟩
    ·show StepR _ _ _ _ _ _ _
     unfold StepR
     intro q u w_ hj hd K hK
     clear hd
     go_simp
     exact hK.out (.pointer (some ⟨a,0,none⟩)) rfl
    ·show StepR _ _ _ _ _ _ _
     unfold StepR
     intro q u w_ hj hd K hK
     have h8:u 8= .pointer (some ⟨a,0,none⟩):=hd.get 0 (by kernel_rfl)
     clear hd
     simp only [h8]at hK
     go_simp
     exact hK.out (.pointer (some ⟨a,0,none⟩)) rfl
    ·show StepR _ _ _ _ _ _ _
     unfold StepR
     intro q u w_ hj hd K hK
     have h9:u 9= .pointer (some ⟨a,0,none⟩):=hd.get 1 (by kernel_rfl)
     clear hd
     simp only [h9]at hK
     go_simp
     exact hK.out (.pointer (some ⟨a,2,none⟩)) rfl
    ·show StepR _ _ _ _ _ _ _
     unfold StepR
     intro q u w_ hj hd K hK
     have h10:u 10= .pointer (some ⟨a,2,none⟩):=hd.get 2 (by kernel_rfl)
     clear hd
     simp only [h10]at hK
     obtain⟨x0,x1,x2,_⟩:=cells3 hj.1
     go_simp
     exact hK.out _ rfl
    ·show StepR _ _ _ _ _ _ _
     unfold StepR
     intro q u w_ hj hd K hK
     clear hd
     go_simp
     exact hK.out (.pointer (some ⟨a,0,none⟩)) rfl
    ·show StepR _ _ _ _ _ _ _
     unfold StepR
     intro q u w_ hj hd K hK
     have h12:u 12= .pointer (some ⟨a,0,none⟩):=hd.get 4 (by kernel_rfl)
     clear hd
     simp only [h12]at hK
     go_simp
     exact hK.out (.pointer (some ⟨a,0,none⟩)) rfl
    ·show StepR _ _ _ _ _ _ _
     unfold StepR
     intro q u w_ hj hd K hK
     have h13:u 13= .pointer (some ⟨a,0,none⟩):=hd.get 5 (by kernel_rfl)
     clear hd
     simp only [h13]at hK
     go_simp
     exact hK.out (.pointer (some ⟨a,1,none⟩)) rfl
    ·show StepR _ _ _ _ _ _ _
     unfold StepR
     intro q u w_ hj hd K hK
     have h14:u 14= .pointer (some ⟨a,1,none⟩):=hd.get 6 (by kernel_rfl)
     clear hd
     simp only [h14]at hK
     obtain⟨x0,x1,x2,_⟩:=cells3 hj.1
     go_simp
     exact hK.out _ rfl
    ·show StepR _ _ _ _ _ _ _
     unfold StepR
     intro q u w_ hj hd K hK
     clear hd
     go_simp
     exact hK.out (.pointer (some ⟨a,0,none⟩)) rfl
    ·show StepR _ _ _ _ _ _ _
     unfold StepR
     intro q u w_ hj hd K hK
     have h16:u 16= .pointer (some ⟨a,0,none⟩):=hd.get 8 (by kernel_rfl)
     clear hd
     simp only [h16]at hK
     go_simp
     exact hK.out (.pointer (some ⟨a,0,none⟩)) rfl
    ·show StepR _ _ _ _ _ _ _
     unfold StepR
     intro q u w_ hj hd K hK
     have h17:u 17= .pointer (some ⟨a,0,none⟩):=hd.get 9 (by kernel_rfl)
     clear hd
     simp only [h17]at hK
     go_simp
     exact hK.out (.pointer (some ⟨a,0,none⟩)) rfl
    ·show StepR _ _ _ _ _ _ _
     unfold StepR
     intro q u w_ hj hd K hK
     have h18:u 18= .pointer (some ⟨a,0,none⟩):=hd.get 10 (by kernel_rfl)
     clear hd
     simp only [h18]at hK
     obtain⟨x0,x1,x2,_⟩:=cells3 hj.1
     go_simp
     exact hK.out _ rfl
    ·show StepR _ _ _ _ _ _ _
     unfold StepR
     intro q u w_ hj hd K hK
     have h15:u 15= .int .i64 (L:Int):=hd.get 7 (by kernel_rfl)
     have h19:u 19= .int .i64 (n:Int):=hd.get 11 (by kernel_rfl)
     clear hd
     simp only [h15,h19]at hK
     go_simp
     exact hK.out (.int .i64 (p:Int)) rfl
    ·show StepR _ _ _ _ _ _ _
     unfold StepR
     intro q u w_ hj hd K hK
     have h11:u 11= .slice ad0 n c0:=hd.get 3 (by kernel_rfl)
     have h20:u 20= .int .i64 (p:Int):=hd.get 12 (by kernel_rfl)
     clear hd
     refine step_cut_lo (a:=⟨_,[]⟩) (by rfl) (.tmp 11) (.tmp 20) (by rfl) ad0 n c0 p (by exact h11) (by exact h20) hpn (hK.out _ rfl)
    ·show StepR _ _ _ _ _ _ _
     unfold StepR
     intro q u w_ hj hd K hK
     clear hd
     go_simp
     exact hK.out (.slice adr M cr) rfl
    ·show StepW _ _ _ _ _ _ 0 _
     unfold StepW
     intro u w_ hj hd K hK
     have h21:u 21= .slice (cutA ad0 c0 p) (n-p) (c0-p):=hd.get 13 (by kernel_rfl)
     have h22:u 22= .slice adr M cr:=hd.get 14 (by kernel_rfl)
     clear hd
     obtain⟨hb,hc⟩:=hj
     have hc:Chg (fun _=>False) wr w_:=hc
     refine step_copy_own (a:=⟨_,[]⟩) (by rfl) (.tmp 21) (.tmp 22) 38 38 (by rfl) B 5 Tryz.underlying38 sizeInfo8 (.slice ad0 n c0) n (ins .u8 (nums ring)) (ownsRow_keep HO.out hc (fun _ _ f=>f)) p (cutA ad0 c0 p) (n-p) (c0-p) (by exact h21) adr M cr (by exact h22) ((nums ys).map (Value.int .u8)) HLN.out HFIT.out (fun _=>HDST.out) (fun h0=>src_front (Bk.row8_chg HROW.out hc) HYS.out h0) hone ?_
     intro w2 ho2 c2
     have e9:goInt ((nums ys).map (Value.int .u8)).length= .int .i64 (k:Int):=by rw [List.length_map,nums_len,HYL.out];rfl
     rw [e9]
     exact hK.out _ w2 ⟨blk_keep hb c2 (fun f=>HNE.out f),ho2,(hc.mono (fun _ f=>f.elim)).trans c2 (fun z f=> .inl f)⟩ rfl
   ·intro u w2 hj hA K hK
    obtain⟨hb2,ho2,c2⟩:=hj
    have h23:u 23= .int .i64 (k:Int):=hA.at 23 (by kernel_rfl)
    obtain⟨_,q1,_,qf⟩:=cells3 hb2
    obtain⟨g1,g2,g3,g4,g5⟩:=HFX.out
    rw [splice_nums,HYL.out]at ho2
    have b3:=set3 hb2 1 (.int .i64 ((L:Int)+(k:Int)))
    have cS:Chg (fun z=>z=a) w2 (w2.setCell ⟨a,1,none⟩ (.int .i64 ((L:Int)+(k:Int)))):=(Chg.refl (fun z=>z=a) w2).setCell (p:=⟨a,1,none⟩) (.inl rfl) _
    have cT:Chg (Foot a v) wr (w2.setCell ⟨a,1,none⟩ (.int .i64 ((L:Int)+(k:Int)))):=(c2.mono (fun z f=> .inl (.inr (by rw [g1];exact f)))).trans cS (fun z f=> .inl (.inl f))
    have hrl:(ring.take p++(ys++ring.drop (p+ys.length))).length=n:=by rw [List.length_append,List.length_append,List.length_take,List.length_drop,HYL.out,g3];omega
    have HW3:Hid (WinR (w2.setCell ⟨a,1,none⟩ (.int .i64 ((L:Int)+(k:Int)))) B a v n (qs++ys) (ring.take p++(ys++ring.drop (p+ys.length)))):=by
     refine⟨HW.out.hr,?_,ownsRow_keep (by rw [hrl,g1,HYL.out];exact ho2) cS (fun g e f=> ?_),HRM.out,HW.out.n1,HW.out.n2,HDG.out⟩
     ·rw [List.length_append,g2,HYL.out,Int.natCast_add,g1]
      exact b3
     ·rw [f,g1]at e
      exact HNE.out e
    have HC3:Hid (Chg (Foot a v) w (w2.setCell ⟨a,1,none⟩ (.int .i64 ((L:Int)+(k:Int))))):=HC.out.trans cT (fun z f=> .inl f)
    have HROW3:Hid (Row8 (w2.setCell ⟨a,1,none⟩ (.int .i64 ((L:Int)+(k:Int)))) (cutA adr cr k) (M-k) (cr-k) (nums rs)):=by
     have h1:=row8_keep HROW.out cT HAPP.out
     have h2:=row8_drop h1 k hkm hMc
     rw [show(nums zs).drop k=nums rs by rw [←g5];simp [nums,List.map_drop]]at h2
     exact h2
    have HE3:Hid ((qs++ys)++rs=bs++xs):=by show _=_;rw [List.append_assoc,←HYS.out];exact HE.out
    have HAP3:Hid (∀x,cutA adr cr k=some x→ ¬Foot a v x.block):=fun x e=>by
     obtain⟨y,e1,e2⟩:=cutA_block e
     rw [e2]
     exact HAPP.out y e1
    have HDZ3:Hid (Rc.Dig rs):=fun x hx=>HDZ.out x (by rw [HYS.out];exact List.mem_append_right _ hx)
    have HLN3:Hid ((ring.take p++(ys++ring.drop (p+ys.length))).length=n):=hrl
    clear hA g1 g2 g3 g4 g5 b3 cS cT hrl ho2 c2 hb2 HROW HW HE HC HAP HAPP HFU HDZ HBK HO HRM HDG HFX HDST HFIT HLN
    go_simp
    refine hK.out _ _ ?_
    clear hK h23 K
    go_wp2_with (refine wpList_cut_lo rfl _ _ rfl adr M cr k rfl rfl hkm ?_)
    go_roundw
    case rel=>exact⟨_,_,_,_,_,_,rfl,by omega,by omega,HROW3.out,HW3.out,HE3.out,HC3.out,fun _=>HAP3.out,fun _=>HLN3.out,HDZ3.out⟩
    case measure=>simp [lenV];omega
  ·have hz:M=0:=by omega
   subst hz
   have hzs:=List.eq_nil_of_length_eq_zero hzl
   have HFIN:Hid (Win wr B a v n (bs++xs)):=by
    have:=HE.out
    rw [hzs,List.append_nil]at this
    rw [←this]
    exact⟨ring,HW.out⟩
   clear hzl hzs
   go_wp2
   go_end0
   exact⟨rfl,HFIN.out,HC.out⟩
end Go.Proofs.YthideplpcnhncaaGreatDoor
