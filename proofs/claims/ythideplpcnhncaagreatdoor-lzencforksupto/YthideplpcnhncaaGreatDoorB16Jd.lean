/- Of no statement by itself: Jd, Je, Rs, Rt (without blanks and remarks). -/
import Derived.Test.YthideplpcnhncaaGreatDoorB15Xf
import Derived.Test.YthideplpcnhncaaGreatDoorB1LastQ
import Derived.Laws.Bits128
namespace Go.Proofs.YthideplpcnhncaaGreatDoor
open Go.RowKit
open St12 Sy13 Lz14
set_option linter.unusedVariables false
set_option linter.unusedSimpArgs false
set_option maxHeartbeats 4000000 in
set_option maxRecDepth 100000 in
theorem newlen7 (p:Prp)(hp:allow p)(pl:Nat)(hpl:2^p.pb.toNat=pl)(B:Nat)(D:Dir)(V:Lst)(w:World)(h:Part w B p fresh 7 D V)(hB:B≤w.heap.size):Calls Tryz.prog 68 #[.int .i64 (pl:Int)] w fun e w'=> ∃D' V',e= .returned (.agg (lenC D' V' 7))∧Part w' B p fresh 11 D' V'∧Alk 7 D V D' V'∧Chg (fun _=>False) w w':=by
 have cA:=chg_one w (.cells #[.pointer none,.slice none 0 0,.slice none 0 0,.pointer none] 80)
 have HB:Hid (B≤w.heap.size):=hB
 have HL:Hid (w.alloc (.cells #[.pointer none,.slice none 0 0,.slice none 0 0,.pointer none] 80)|>.heap[w.heap.size]?=some (.cells #[.pointer none,.slice none 0 0,.slice none 0 0,.pointer none] 80 (0,0))):=heap_alloc_last _ _
 have HP:Hid (Part (w.alloc (.cells #[.pointer none,.slice none 0 0,.slice none 0 0,.pointer none] 80)) B p fresh 7 D V):=h.new cA
 have HC:Hid (Chg (fun _=>False) w (w.alloc (.cells #[.pointer none,.slice none 0 0,.slice none 0 0,.pointer none] 80))):=cA
 clear h cA hB
 go_enter Tryz.func68,Tryz.ntmps68
 go_wp2_with fail
 generalize w.alloc (.cells #[.pointer none,.slice none 0 0,.slice none 0 0,.pointer none] 80)=W at*
 refine(prow (m:=7) hp HP.out (Nat.le_trans HB.out HC.out.size) rfl rfl 2 rfl).mono ?_
 rintro z w1 ⟨D1,V1,rfl,hp1,hk1,c1⟩
 have HP1:Hid (Part w1 B p fresh 8 D1 V1):=hp1
 have HK1:Hid (Alk 7 D V D1 V1):=hk1
 have HC1:Hid (Chg (fun _=>False) w w1):=chg_then HC.out c1
 have HL1:Hid (w1.heap[w.heap.size]?=some (.cells #[.pointer none,.slice none 0 0,.slice none 0 0,.pointer none] 80 (0,0))):=blk_keep HL.out c1 (fun f=>f)
 clear hp1 hk1 c1 HP HC HL
 go_wp2_with fail
 refine(prows (m:=8) hp HP1.out (Nat.le_trans HB.out HC1.out.size) pl hpl 8 rfl).mono ?_
 rintro z w2 ⟨D2,V2,rfl,hp2,hk2,c2⟩
 have HP2:Hid (Part w2 B p fresh 9 D2 V2):=hp2
 have HK2:Hid (Alk 7 D V D2 V2∧D1 7=D2 7):=⟨HK1.out.trans hk2 (by omega),(hk2 7 (by omega)).1.symm⟩
 have HC2:Hid (Chg (fun _=>False) w w2):=chg_then HC1.out c2
 have HL2:Hid (w2.heap[w.heap.size]?=some (.cells #[.pointer none,.slice none 0 0,.slice none 0 0,.pointer none] 80 (0,0))):=blk_keep HL1.out c2 (fun f=>f)
 clear hp2 hk2 c2 HP1 HC1 HL1 HK1
 go_wp2_with fail
 refine(prows (m:=9) hp HP2.out (Nat.le_trans HB.out HC2.out.size) pl hpl 8 rfl).mono ?_
 rintro z w3 ⟨D3,V3,rfl,hp3,hk3,c3⟩
 have HP3:Hid (Part w3 B p fresh 10 D3 V3):=hp3
 have HK3:Hid (Alk 7 D V D3 V3∧D1 7=D3 7∧V2 8=V3 8):=⟨HK2.out.1.trans hk3 (by omega),HK2.out.2.trans (hk3 7 (by omega)).1.symm,(hk3 8 (by omega)).2.symm⟩
 have HC3:Hid (Chg (fun _=>False) w w3):=chg_then HC2.out c3
 have HL3:Hid (w3.heap[w.heap.size]?=some (.cells #[.pointer none,.slice none 0 0,.slice none 0 0,.pointer none] 80 (0,0))):=blk_keep HL2.out c3 (fun f=>f)
 clear hp3 hk3 c3 HP2 HC2 HL2 HK2
 go_wp2_with fail
 refine(prow (m:=10) hp HP3.out (Nat.le_trans HB.out HC3.out.size) rfl rfl 256 rfl).mono ?_
 rintro z w4 ⟨D4,V4,rfl,hp4,hk4,c4⟩
 have HP4:Hid (Part w4 B p fresh 11 D4 V4):=hp4
 have HK4:Hid (Alk 7 D V D4 V4∧D1 7=D4 7∧V2 8=V4 8∧V3 9=V4 9):=⟨HK3.out.1.trans hk4 (by omega),HK3.out.2.1.trans (hk4 7 (by omega)).1.symm,HK3.out.2.2.trans (hk4 8 (by omega)).2.symm,(hk4 9 (by omega)).2.symm⟩
 have HC4:Hid (Chg (fun _=>False) w w4):=chg_then HC3.out c4
 have hL4:w4.heap[w.heap.size]?=some (.cells #[.pointer none,.slice none 0 0,.slice none 0 0,.pointer none] 80 (0,0)):=blk_keep HL3.out c4 (fun f=>f)
 clear hp4 hk4 c4 HP3 HC3 HL3 HK3
 rw [HK4.out.2.1,HK4.out.2.2.1,HK4.out.2.2.2]
 obtain⟨a1,c1,e1⟩:=form1 (HP4.out.ls 8 (by omega) rfl)
 obtain⟨a2,c2,e2⟩:=form1 (HP4.out.ls 9 (by omega) rfl)
 have HE:Hid (lenC D4 V4 7= #[.pointer (some ⟨(D4 7 0).1,0,none⟩),.slice a1 (cntS p 8) c1,.slice a2 (cntS p 9) c2,.pointer (some ⟨(D4 10 0).1,0,none⟩)]):=by
  show _=_
  unfold lenC
  rw [e1,e2]
  rfl
 rw [e1,e2]
 unfold ptV
 obtain⟨⟨p0,f0⟩,⟨p1,f1⟩,⟨p2,f2⟩,⟨p3,f3⟩,hblk,hchg⟩:=put4_of hL4 (.pointer (some ⟨(D4 7 0).1,0,none⟩)) (.slice a1 (cntS p 8) c1) (.slice a2 (cntS p 9) c2) (.pointer (some ⟨(D4 10 0).1,0,none⟩))
 have HZ:Hid _:=And.intro hblk hchg
 have HPF:Hid _:=HP4.out.off hchg (fun z e=>e) hL4 (by decide) (by decide) (by decide)
 have HCF:Hid _:=HC4.out.trans hchg (fun z e=> .inr (by omega))
 clear hblk hchg hL4 e1 e2 HP4 HC4
 go_wp2
 obtain⟨q0,q1,q2,q3⟩:=cells4z HZ.out.1
 refine bodyPost_ret (v:= .agg (lenC D4 V4 7)) (by rw [HE.out];simp [results,Tryz.results68,go_sem,q0,q1,q2,q3]) rfl ?_
 exact⟨D4,V4,rfl,HPF.out,HK4.out.1,HCF.out⟩
set_option maxHeartbeats 4000000 in
set_option maxRecDepth 100000 in
theorem newlen11 (p:Prp)(hp:allow p)(pl:Nat)(hpl:2^p.pb.toNat=pl)(B:Nat)(D:Dir)(V:Lst)(w:World)(h:Part w B p fresh 11 D V)(hB:B≤w.heap.size):Calls Tryz.prog 68 #[.int .i64 (pl:Int)] w fun e w'=> ∃D' V',e= .returned (.agg (lenC D' V' 11))∧Part w' B p fresh 15 D' V'∧Alk 11 D V D' V'∧Chg (fun _=>False) w w':=by
 have cA:=chg_one w (.cells #[.pointer none,.slice none 0 0,.slice none 0 0,.pointer none] 80)
 have HB:Hid (B≤w.heap.size):=hB
 have HL:Hid (w.alloc (.cells #[.pointer none,.slice none 0 0,.slice none 0 0,.pointer none] 80)|>.heap[w.heap.size]?=some (.cells #[.pointer none,.slice none 0 0,.slice none 0 0,.pointer none] 80 (0,0))):=heap_alloc_last _ _
 have HP:Hid (Part (w.alloc (.cells #[.pointer none,.slice none 0 0,.slice none 0 0,.pointer none] 80)) B p fresh 11 D V):=h.new cA
 have HC:Hid (Chg (fun _=>False) w (w.alloc (.cells #[.pointer none,.slice none 0 0,.slice none 0 0,.pointer none] 80))):=cA
 clear h cA hB
 go_enter Tryz.func68,Tryz.ntmps68
 go_wp2_with fail
 generalize w.alloc (.cells #[.pointer none,.slice none 0 0,.slice none 0 0,.pointer none] 80)=W at*
 refine(prow (m:=11) hp HP.out (Nat.le_trans HB.out HC.out.size) rfl rfl 2 rfl).mono ?_
 rintro z w1 ⟨D1,V1,rfl,hp1,hk1,c1⟩
 have HP1:Hid (Part w1 B p fresh 12 D1 V1):=hp1
 have HK1:Hid (Alk 11 D V D1 V1):=hk1
 have HC1:Hid (Chg (fun _=>False) w w1):=chg_then HC.out c1
 have HL1:Hid (w1.heap[w.heap.size]?=some (.cells #[.pointer none,.slice none 0 0,.slice none 0 0,.pointer none] 80 (0,0))):=blk_keep HL.out c1 (fun f=>f)
 clear hp1 hk1 c1 HP HC HL
 go_wp2_with fail
 refine(prows (m:=12) hp HP1.out (Nat.le_trans HB.out HC1.out.size) pl hpl 8 rfl).mono ?_
 rintro z w2 ⟨D2,V2,rfl,hp2,hk2,c2⟩
 have HP2:Hid (Part w2 B p fresh 13 D2 V2):=hp2
 have HK2:Hid (Alk 11 D V D2 V2∧D1 11=D2 11):=⟨HK1.out.trans hk2 (by omega),(hk2 11 (by omega)).1.symm⟩
 have HC2:Hid (Chg (fun _=>False) w w2):=chg_then HC1.out c2
 have HL2:Hid (w2.heap[w.heap.size]?=some (.cells #[.pointer none,.slice none 0 0,.slice none 0 0,.pointer none] 80 (0,0))):=blk_keep HL1.out c2 (fun f=>f)
 clear hp2 hk2 c2 HP1 HC1 HL1 HK1
 go_wp2_with fail
 refine(prows (m:=13) hp HP2.out (Nat.le_trans HB.out HC2.out.size) pl hpl 8 rfl).mono ?_
 rintro z w3 ⟨D3,V3,rfl,hp3,hk3,c3⟩
 have HP3:Hid (Part w3 B p fresh 14 D3 V3):=hp3
 have HK3:Hid (Alk 11 D V D3 V3∧D1 11=D3 11∧V2 12=V3 12):=⟨HK2.out.1.trans hk3 (by omega),HK2.out.2.trans (hk3 11 (by omega)).1.symm,(hk3 12 (by omega)).2.symm⟩
 have HC3:Hid (Chg (fun _=>False) w w3):=chg_then HC2.out c3
 have HL3:Hid (w3.heap[w.heap.size]?=some (.cells #[.pointer none,.slice none 0 0,.slice none 0 0,.pointer none] 80 (0,0))):=blk_keep HL2.out c3 (fun f=>f)
 clear hp3 hk3 c3 HP2 HC2 HL2 HK2
 go_wp2_with fail
 refine(prow (m:=14) hp HP3.out (Nat.le_trans HB.out HC3.out.size) rfl rfl 256 rfl).mono ?_
 rintro z w4 ⟨D4,V4,rfl,hp4,hk4,c4⟩
 have HP4:Hid (Part w4 B p fresh 15 D4 V4):=hp4
 have HK4:Hid (Alk 11 D V D4 V4∧D1 11=D4 11∧V2 12=V4 12∧V3 13=V4 13):=⟨HK3.out.1.trans hk4 (by omega),HK3.out.2.1.trans (hk4 11 (by omega)).1.symm,HK3.out.2.2.trans (hk4 12 (by omega)).2.symm,(hk4 13 (by omega)).2.symm⟩
 have HC4:Hid (Chg (fun _=>False) w w4):=chg_then HC3.out c4
 have hL4:w4.heap[w.heap.size]?=some (.cells #[.pointer none,.slice none 0 0,.slice none 0 0,.pointer none] 80 (0,0)):=blk_keep HL3.out c4 (fun f=>f)
 clear hp4 hk4 c4 HP3 HC3 HL3 HK3
 rw [HK4.out.2.1,HK4.out.2.2.1,HK4.out.2.2.2]
 obtain⟨a1,c1,e1⟩:=form1 (HP4.out.ls 12 (by omega) rfl)
 obtain⟨a2,c2,e2⟩:=form1 (HP4.out.ls 13 (by omega) rfl)
 have HE:Hid (lenC D4 V4 11= #[.pointer (some ⟨(D4 11 0).1,0,none⟩),.slice a1 (cntS p 12) c1,.slice a2 (cntS p 13) c2,.pointer (some ⟨(D4 14 0).1,0,none⟩)]):=by
  show _=_
  unfold lenC
  rw [e1,e2]
  rfl
 rw [e1,e2]
 unfold ptV
 obtain⟨⟨p0,f0⟩,⟨p1,f1⟩,⟨p2,f2⟩,⟨p3,f3⟩,hblk,hchg⟩:=put4_of hL4 (.pointer (some ⟨(D4 11 0).1,0,none⟩)) (.slice a1 (cntS p 12) c1) (.slice a2 (cntS p 13) c2) (.pointer (some ⟨(D4 14 0).1,0,none⟩))
 have HZ:Hid _:=And.intro hblk hchg
 have HPF:Hid _:=HP4.out.off hchg (fun z e=>e) hL4 (by decide) (by decide) (by decide)
 have HCF:Hid _:=HC4.out.trans hchg (fun z e=> .inr (by omega))
 clear hblk hchg hL4 e1 e2 HP4 HC4
 go_wp2
 obtain⟨q0,q1,q2,q3⟩:=cells4z HZ.out.1
 refine bodyPost_ret (v:= .agg (lenC D4 V4 11)) (by rw [HE.out];simp [results,Tryz.results68,go_sem,q0,q1,q2,q3]) rfl ?_
 exact⟨D4,V4,rfl,HPF.out,HK4.out.1,HCF.out⟩
end Go.Proofs.YthideplpcnhncaaGreatDoor
namespace Go.Proofs.YthideplpcnhncaaGreatDoor
open Go.RowKit
open St12 Sy13 Lz14
set_option linter.unusedVariables false
set_option linter.unusedSimpArgs false
theorem ofInt_mask {k:Nat}(hk:k≤8):(BitVec.ofInt 64 ((2^k-1:Nat):Int)).toNat=2^k-1:=by
 have h:k=0∨k=1∨k=2∨k=3∨k=4∨k=5∨k=6∨k=7∨k=8:=by omega
 rcases h with rfl|rfl|rfl|rfl|rfl|rfl|rfl|rfl|rfl<;>decide
theorem and_mask (n k:Nat)(hk:k≤8)(hn:n<9223372036854775808):bits .and .i64 (n:Int) ((2^k-1:Nat):Int)=((n% 2^k:Nat):Int):=by
 have key:(BitVec.ofInt 64 (n:Int)&&&BitVec.ofInt 64 ((2^k-1:Nat):Int)).toNat=n% 2^k:=by
  rw [BitVec.toNat_and,BitVec.toNat_ofInt,ofInt_mask hk,Nat.and_two_pow_sub_one_eq_mod]
  congr 1
  omega
 show IntKind.i64.wrap ((BitVec.ofInt 64 (n:Int)&&&BitVec.ofInt 64 ((2^k-1:Nat):Int)).toNat:Nat)=_
 rw [key,IntKind.wrap_i64]
 have:=Nat.mod_le n (2^k)
 omega
theorem pow_le8 {k:Nat}(hk:k≤8):1≤2^k∧2^k≤256:=⟨Nat.pow_pos (by omega),Nat.pow_le_pow_right (n:=2) (by omega) hk⟩
theorem wrap_pow {x:Int}(h:0≤x)(h8:x≤8):wrap64 (2^x.toNat)=((2^x.toNat:Nat):Int):=by
 have h1:=pow_le8 (k:=x.toNat) (by omega)
 have e:(2:Int)^x.toNat=((2^x.toNat:Nat):Int):=by simp
 rw [e]
 unfold wrap64
 omega
theorem wrap_mask {x:Int}(h:0≤x)(h8:x≤8)(n:Nat)(hn:n<9223372036854775808):bits .and .i64 (n:Int) (wrap64 (wrap64 (2^x.toNat)-1))=((n% 2^x.toNat:Nat):Int):=by
 have h1:=pow_le8 (k:=x.toNat) (by omega)
 rw [wrap_pow h h8]
 have e:wrap64 (((2^x.toNat:Nat):Int)-1)=((2^x.toNat-1:Nat):Int):=by unfold wrap64;omega
 rw [e]
 exact and_mask n _ (by omega) hn
theorem place_any (g:Nat)(pb:Int)(pos:Nat)(w:World)(h0:0≤pb)(h4:pb≤4)(hq:pos≤1152921504606846976)(hc:w.cell? ⟨g,2,none⟩=some (.int .i64 pb)):Calls Tryz.prog 73 #[.pointer (some ⟨g,0,none⟩),.int .i64 (pos:Int)] w fun e w'=>e= .returned (.int .i64 ((pos% 2^pb.toNat:Nat):Int))∧w=w':=by
 have HW:Hid (bits .and .i64 (pos:Int) (wrap64 (wrap64 (2^pb.toNat)-1))=((pos% 2^pb.toNat:Nat):Int)):=wrap_mask h0 (by omega) pos (by omega)
 go_enter Tryz.func73,Tryz.ntmps73
 go_wp2
 go_ret
 rw [←HW.out]
 exact⟨rfl,rfl⟩
set_option maxHeartbeats 2000000 in
set_option maxRecDepth 100000 in
theorem litrow_any (g ad c:Nat)(p:Prp)(hp:allow p)(pos b:Nat)(w0:World)(hq:pos≤1152921504606846976)(hb:b<256)(n:Nat)(x:Value)
  (hi:pos% 2^p.lp.toNat*2^p.lc.toNat+b/2^(8-p.lc.toNat)<n) (hn:n≤16)
  (c0:w0.cell? ⟨g,0,none⟩=some (.int .i64 p.lc)) (c1:w0.cell? ⟨g,1,none⟩=some (.int .i64 p.lp)) (c2:w0.cell? ⟨g,2,none⟩=some (.int .i64 p.pb))
  (c9:w0.cell? ⟨g,9,none⟩=some (.slice (some ⟨ad,0,none⟩) n c)) (cx:w0.cell? ⟨ad,pos% 2^p.lp.toNat*2^p.lc.toNat+b/2^(8-p.lc.toNat),none⟩=some x):Calls Tryz.prog 120 #[.pointer (some ⟨g,0,none⟩),.int .i64 (pos:Int),.int .u8 (b:Int)] w0 fun e w'=>e= .returned x∧Chg (fun _=>False) w0 w':=by
 have hpp:=pow_pb hp
 obtain⟨lc,lp,pb⟩:=p
 simp only at*
 obtain⟨_,_,l0,l1,_,l4,_⟩:=hpp
 have HW:Hid _:=wrap_mask l1 (by omega) pos (by omega)
 have hlc:=pow_le8 (k:=lc.toNat) (by omega)
 have hlp:=pow_le8 (k:=lp.toNat) (by omega)
 obtain⟨X,hX⟩: ∃X,pos% 2^lp.toNat=X:=⟨_,rfl⟩
 obtain⟨Y,hY⟩: ∃Y,b/2^(8-lc.toNat)=Y:=⟨_,rfl⟩
 obtain⟨Z,hZ⟩: ∃Z,X*2^lc.toNat=Z:=⟨_,rfl⟩
 have HY1:Hid (((b:Int)/2^(8-lc).toNat)=(Y:Int)):=by
  show _=_
  rw [←hY,show(8-lc).toNat=8-lc.toNat by omega]
  simp
 have hZ1:((X:Int)*2^lc.toNat)=(Z:Int):=by rw [←hZ];simp
 rw [hX]at HW hi cx
 rw [hY]at hi cx
 rw [hZ]at hi cx
 have HZB:Hid (IntKind.i64.wrap ((X:Int)*2^lc.toNat)=(Z:Int)):=by show _=_;rw [hZ1,IntKind.wrap_i64];omega
 obtain⟨M,hM⟩: ∃M,Z+Y=M:=⟨_,rfl⟩
 have HZY:Hid (IntKind.i64.wrap ((Z:Int)+(Y:Int))=(M:Int)):=by show _=_;rw [IntKind.wrap_i64];omega
 have HZQ:Hid ((Z:Int)+(Y:Int)=(M:Int)):=by show _=_;omega
 rw [hM]at hi cx
 clear hM
 have HN:(w0.alloc (.cells #[.int .i64 lc,.int .i64 lp,.int .i64 pb] 23)).heap[w0.heap.size]?=some (.cells #[.int .i64 lc,.int .i64 lp,.int .i64 pb] 23 (0,0)):=heap_alloc_last _ _
 have cA:=chg_one w0 (.cells #[.int .i64 lc,.int .i64 lp,.int .i64 pb] 23)
 have d9:=cell_chg c9 cA
 have dx:=cell_chg cx cA
 have HC:Hid (Chg (fun _=>False) w0 (w0.alloc (.cells #[.int .i64 lc,.int .i64 lp,.int .i64 pb] 23))):=cA
 have n0:(w0.alloc (.cells #[.int .i64 lc,.int .i64 lp,.int .i64 pb] 23)).cell? ⟨w0.heap.size,0,none⟩=some (.int .i64 lc):=by rw [cell_of_row _ _ _ _ _ _ HN];rfl
 have n1:(w0.alloc (.cells #[.int .i64 lc,.int .i64 lp,.int .i64 pb] 23)).cell? ⟨w0.heap.size,1,none⟩=some (.int .i64 lp):=by rw [cell_of_row _ _ _ _ _ _ HN];rfl
 clear hX hY hZ hlc hlp hZ1 HN cA hp cx c9
 rename_i q1 q2 q3 q4
 clear q1 q2 q3 q4
 go_enter Tryz.func120,Tryz.ntmps120
 go_upto_region 4 with fail
 generalize w0.alloc (.cells #[.int .i64 lc,.int .i64 lp,.int .i64 pb] 23)=W at*
 rw [HW.out,HY1.out]
 clear HW HY1 c0 c1 c2 n1
 refine wp_region_free (mk:=fun u=> #[_,_,_,_,_,_,u 6,_,_,_,_,_,_,_,_,_,_,_,_,_,_,_,_,_,_,_,u 26,u 27,u 28,u 29,u 30,u 31,u 32,u 33,u 34,u 35,u 36,u 37]) (F:=fun slot vv ww=>(look [(26,.val (.pointer (some ⟨g,0,none⟩))),(27,.val (.pointer (some ⟨g,0,none⟩))),(28,.val (.pointer (some ⟨g,9,none⟩))),(29,.val (.slice (some ⟨ad,0,none⟩) n c)),(30,.val (.int .i64 (X:Int))),(31,.val (.pointer (some ⟨w0.heap.size,0,none⟩))),(32,.val (.int .i64 lc)),(33,.val (.int .i64 (Z:Int))),(34,.val (.int .i64 (Y:Int))),(35,.val (.int .i64 (M:Int))),(36,.val (.pointer (some ⟨ad,M,none⟩))),(37,.val x),(6,.val x)] slot).holds vv ww) (fun t=>if t=6 then .pointer none else undef) rfl (by kernel_rfl) (by kernel_rfl) ?_ (fun _ v w w' hc h=>Fact.stays _ v w w' hc h) ?_ ?_
 ·repeat (refine⟨⟨_,rfl,fun _ _=>rfl⟩,?_⟩)
  exact trivial
 ·refine⟨?_,?_,?_,?_,?_,?_,?_,?_,?_,?_,?_,?_,?_,trivial⟩
  ·intro u w_ hc hd K hK
   clear hd
   go_simp
   exact hK.out (.pointer (some ⟨g,0,none⟩)) w_ (Chg.refl _ _) rfl
  ·intro u w_ hc hd K hK
   have h26:(Fact.val (.pointer (some ⟨g,0,none⟩))).holds (u 26) w_:=hd.get 0 (by kernel_rfl)
   simp only [Fact.holds]at h26
   clear hd
   simp only [h26]at hK
   go_simp
   exact hK.out (.pointer (some ⟨g,0,none⟩)) w_ (Chg.refl _ _) rfl
  ·intro u w_ hc hd K hK
   have h27:(Fact.val (.pointer (some ⟨g,0,none⟩))).holds (u 27) w_:=hd.get 1 (by kernel_rfl)
   simp only [Fact.holds]at h27
   clear hd
   simp only [h27]at hK
   go_simp
   exact hK.out (.pointer (some ⟨g,9,none⟩)) w_ (Chg.refl _ _) rfl
  ·intro u w_ hc hd K hK
   have h28:(Fact.val (.pointer (some ⟨g,9,none⟩))).holds (u 28) w_:=hd.get 2 (by kernel_rfl)
   simp only [Fact.holds]at h28
   clear hd
   simp only [h28]at hK
   have hcell:=cell_chg d9 hc
   go_simp
   exact hK.out _ _ (Chg.refl _ _) rfl
  ·intro u w_ hc hd K hK
   clear hd
   go_simp
   exact hK.out (.int .i64 (X:Int)) w_ (Chg.refl _ _) rfl
  ·intro u w_ hc hd K hK
   clear hd
   go_simp
   exact hK.out (.pointer (some ⟨w0.heap.size,0,none⟩)) w_ (Chg.refl _ _) rfl
  ·intro u w_ hc hd K hK
   have h31:(Fact.val (.pointer (some ⟨w0.heap.size,0,none⟩))).holds (u 31) w_:=hd.get 5 (by kernel_rfl)
   simp only [Fact.holds]at h31
   clear hd
   simp only [h31]at hK
   have hcell:=cell_chg n0 hc
   go_simp
   exact hK.out _ _ (Chg.refl _ _) rfl
  ·intro u w_ hc hd K hK
   have h30:(Fact.val (.int .i64 (X:Int))).holds (u 30) w_:=hd.get 4 (by kernel_rfl)
   simp only [Fact.holds]at h30
   have h32:(Fact.val (.int .i64 lc)).holds (u 32) w_:=hd.get 6 (by kernel_rfl)
   simp only [Fact.holds]at h32
   clear hd
   simp only [h30,h32]at hK
   go_simp
   rw [HZB.out]
   exact hK.out _ _ (Chg.refl _ _) rfl
  ·intro u w_ hc hd K hK
   clear hd
   go_simp
   exact hK.out (.int .i64 (Y:Int)) w_ (Chg.refl _ _) rfl
  ·intro u w_ hc hd K hK
   have h33:(Fact.val (.int .i64 (Z:Int))).holds (u 33) w_:=hd.get 7 (by kernel_rfl)
   simp only [Fact.holds]at h33
   have h34:(Fact.val (.int .i64 (Y:Int))).holds (u 34) w_:=hd.get 8 (by kernel_rfl)
   simp only [Fact.holds]at h34
   clear hd
   simp only [h33,h34]at hK
   go_simp
   first|rw [HZY.out]|rw [HZQ.out]
   exact hK.out _ _ (Chg.refl _ _) rfl
  ·intro u w_ hc hd K hK
   have h29:(Fact.val (.slice (some ⟨ad,0,none⟩) n c)).holds (u 29) w_:=hd.get 3 (by kernel_rfl)
   simp only [Fact.holds]at h29
   have h35:(Fact.val (.int .i64 (M:Int))).holds (u 35) w_:=hd.get 9 (by kernel_rfl)
   simp only [Fact.holds]at h35
   clear hd
   simp only [h29,h35]at hK
   go_simp
   exact hK.out _ _ (Chg.refl _ _) rfl
  ·intro u w_ hc hd K hK
   have h36:(Fact.val (.pointer (some ⟨ad,M,none⟩))).holds (u 36) w_:=hd.get 10 (by kernel_rfl)
   simp only [Fact.holds]at h36
   clear hd
   simp only [h36]at hK
   have hcell:=cell_chg dx hc
   go_simp
   exact hK.out _ _ (Chg.refl _ _) rfl
  ·intro u w_ hc hd K hK
   have h37:(Fact.val x).holds (u 37) w_:=hd.get 11 (by kernel_rfl)
   simp only [Fact.holds]at h37
   clear hd
   simp only [h37]at hK
   go_simp
   exact hK.out x w_ (Chg.refl _ _) rfl
 ·intro u w_ hc hA
  have e6:(Fact.val x).holds (u 6) w_:=hA.at 6 (by kernel_rfl)
  simp only [Fact.holds]at e6
  have HCC:Hid (Chg (fun _=>False) w0 w_):=chg_then HC.out hc
  clear hA hc
  simp only [e6]
  go_wp2
  go_ret
  exact⟨rfl,HCC.out⟩
theorem slottree_any (g ad c:Nat)(l:Nat)(hl:2≤l)(hl2:l≤273)(w:World)(x:Value)(c18:w.cell? ⟨g,18,none⟩=some (.slice (some ⟨ad,0,none⟩) 4 c))(cx:w.cell? ⟨ad,min (l-2) 3,none⟩=some x):Calls Tryz.prog 125 #[.pointer (some ⟨g,0,none⟩),.int .i64 (l:Int)] w fun e w'=>e= .returned x∧w=w':=by
 by_cases h5:l<5
 ·have hm:min (l-2) 3=l-2:=by omega
  rw [hm]at cx
  obtain⟨k,rfl⟩: ∃k,l=k+2:=⟨l-2,by omega⟩
  rw [Nat.add_sub_cancel]at cx
  clear hm
  go_enter Tryz.func125,Tryz.ntmps125
  go_wp2
  go_ret
  exact⟨rfl,rfl⟩
 ·have hm:min (l-2) 3=3:=by omega
  rw [hm]at cx
  obtain⟨k,rfl⟩: ∃k,l=k+2:=⟨l-2,by omega⟩
  clear hm
  by_cases hk3:k=3
  ·subst hk3
   clear h5 hl hl2
   go_enter Tryz.func125,Tryz.ntmps125
   go_wp2
   go_ret
   exact⟨rfl,rfl⟩
  ·have hk4:4≤k:=by omega
   clear hk3 h5
   go_enter Tryz.func125,Tryz.ntmps125
   go_wp2
   go_ret
   exact⟨rfl,rfl⟩
end Go.Proofs.YthideplpcnhncaaGreatDoor
namespace Go.Proofs.YthideplpcnhncaaGreatDoor
open Go.RowKit
set_option linter.unusedVariables false
section
variable {P:Program} {ops:Array Oper} {Q:Exit→Act→World→Prop} {G:Nat→Value→Prop} {J:(Nat→Bool)→(Nat→Value)→World→Prop} {mk:(Nat→Value)→Array Value} {df:List Deferred}
def also (L:Nat→Bool)(i:Nat):Nat→Bool:=fun j=>if j=i then true else L j
def StepRS (P:Program)(ops:Array Oper)(Q:Exit→Act→World→Prop)(mk:(Nat→Value)→Array Value)(df:List Deferred)(G:Nat→Value→Prop)(J:(Nat→Bool)→(Nat→Value)→World→Prop)(o:Oper):Prop:=
 ∀(L:Nat→Bool) (u:Nat→Value) (w:World),J L u w→Deps ops (fun t v _=>G t v) u w o.after.toList→
   ∀K:Act→World→Prop,Shut (∀v,G (o.dst.getD 0) v→K ((⟨mk u,df⟩:Act).put o.dst v) w)→
   if Region.wanted o (yielded ops (mk u))=true then Oper.wp P o ⟨mk u,df⟩ w K Q else K ((⟨mk u,df⟩:Act).put o.dst undef) w
def StepWS (P:Program)(ops:Array Oper)(Q:Exit→Act→World→Prop)(mk:(Nat→Value)→Array Value)(df:List Deferred)(G:Nat→Value→Prop)(J:(Nat→Bool)→(Nat→Value)→World→Prop)(i:Nat)(o:Oper):Prop:=
 ∀(L:Nat→Bool) (u:Nat→Value) (w:World),J L u w→L i=false→(∀e∈o.after.toList,Region.binds .any e=true→L e.on=true)→Deps ops (fun t v _=>G t v) u w o.after.toList→
   ∀K:Act→World→Prop,Shut (∀v w',J (also L i) (upd u (o.dst.getD 0) v) w'→G (o.dst.getD 0) v→K ((⟨mk u,df⟩:Act).put o.dst v) w')→
   if Region.wanted o (yielded ops (mk u))=true then Oper.wp P o ⟨mk u,df⟩ w K Q else K ((⟨mk u,df⟩:Act).put o.dst undef) w
def StepsS (P:Program)(ops:Array Oper)(Q:Exit→Act→World→Prop)(mk:(Nat→Value)→Array Value)(df:List Deferred)(G:Nat→Value→Prop)(J:(Nat→Bool)→(Nat→Value)→World→Prop)(ms:List Nat):Nat→List Oper→Prop
 |_,[]=>True
 |i,o::r=>(if ms.contains i=true then StepWS P ops Q mk df G J i o else StepRS P ops Q mk df G J o)∧StepsS P ops Q mk df G J ms (i+1) r
theorem stepsS_at {ms:List Nat}: ∀ {l:List Oper} {b:Nat},StepsS P ops Q mk df G J ms b l→ ∀k o,l[k]?=some o→(if ms.contains (b+k)=true then StepWS P ops Q mk df G J (b+k) o else StepRS P ops Q mk df G J o)
 | [],_,_,k,o,h=>by simp at h
 |o'::l,b,hs,0,o,h=>by
  simp only [List.getElem?_cons_zero,Option.some.injEq]at h
  subst h
  exact hs.1
 |o'::l,b,hs,k+1,o,h=>by
  rw [List.getElem?_cons_succ]at h
  have:=stepsS_at hs.2 k o h
  rw [show b+(k+1)=b+1+k by omega]
  exact this
end
end Go.Proofs.YthideplpcnhncaaGreatDoor
namespace Go.Proofs.YthideplpcnhncaaGreatDoor
open Go.RowKit
set_option linter.unusedVariables false
section
variable {P:Program} {ops:Array Oper} {Q:Exit→Act→World→Prop} {G:Nat→Value→Prop} {J:(Nat→Bool)→(Nat→Value)→World→Prop} {mk:(Nat→Value)→Array Value} {df:List Deferred}
def tidyM (ops:Array Oper)(n:Nat):Bool:=
 ((List.range n).all fun i=>(List.range n).all (fun j=>i==j||slotOf ops i !=slotOf ops j)&&((List.range (n+1)).any fun j=>decide (i<j)&&((ops[j]?).map fun o=>o.after.toList.any fun e=>e.on==i&&Region.binds .any e).getD false))
 &&(List.range (n+1)).all fun i=>((ops[i]?).map fun o=>o.after.toList.all fun e=> !Region.binds .any e||decide (e.on<i)).getD true
theorem tidyM_slot {n:Nat}(h:tidyM ops n=true){i j:Nat}(hi:i<n)(hj:j<n)(e:slotOf ops i=slotOf ops j):i=j:=by
 simp only [tidyM,Bool.and_eq_true]at h
 have h1:=List.all_eq_true.1 h.1 i (List.mem_range.2 hi)
 simp only [Bool.and_eq_true]at h1
 have h2:=List.all_eq_true.1 h1.1 j (List.mem_range.2 hj)
 simpa [e]using h2
theorem tidyM_after {n:Nat}(h:tidyM ops n=true){i:Nat}(hi:i<n+1){o:Oper}(ho:ops[i]?=some o){e:Edge}(he:e∈o.after)(hb:Region.binds .any e=true):e.on<i:=by
 simp only [tidyM,Bool.and_eq_true]at h
 have h1:=List.all_eq_true.1 h.2 i (List.mem_range.2 hi)
 simp only [ho,Option.map_some,Option.getD_some]at h1
 have h2:=List.all_eq_true.1 h1 e (by simpa using he)
 simpa [hb]using h2
theorem tidyM_wait {n:Nat}(h:tidyM ops n=true){i:Nat}(hi:i<n): ∃j o e,i<j∧j<n+1∧ops[j]?=some o∧e∈o.after∧e.on=i∧Region.binds .any e=true:=by
 simp only [tidyM,Bool.and_eq_true]at h
 have h1:=List.all_eq_true.1 h.1 i (List.mem_range.2 hi)
 simp only [Bool.and_eq_true]at h1
 obtain⟨j,hj,h2⟩:=List.any_eq_true.1 h1.2
 simp only [Bool.and_eq_true,decide_eq_true_eq]at h2
 cases ho:ops[j]? with
 |none=>simp [ho]at h2
 |some o=>
  simp only [ho,Option.map_some,Option.getD_some]at h2
  obtain⟨e,he,h3⟩:=List.any_eq_true.1 h2.2
  simp only [Bool.and_eq_true,beq_iff_eq]at h3
  exact⟨j,o,e,h2.1,List.mem_range.1 hj,ho,by simpa using he,h3.1,h3.2⟩
theorem setM_go (front:List Oper)(last:Oper)(ms:List Nat)(hops:ops.toList=front++[last])(ht:tidyM ops front.length=true)(hmn:ms.all (fun m=>decide (m<front.length))=true)(hp:PutsQ mk df front)
  (hJ: ∀L L' u u' w,(∀m∈ms,L m=L' m∧u (slotOf ops m)=u' (slotOf ops m))→J L u w→J L' u' w)
  (hs:StepsS P ops Q mk df G J ms 0 front)
  (hend: ∀u w,J (fun _=>true) u w→Alls (fun t v _=>G t v) u w front→ ∀K:Act→World→Prop,Shut (∀a w',Q .normal a w'→K a w')→
   if Region.wanted last (yielded ops (mk u))=true then Oper.wp P last ⟨mk u,df⟩ w K Q else K ((⟨mk u,df⟩:Act).put last.dst undef) w):
  ∀(fuel:Nat) (listed:Array Bool) (u:Nat→Value) (w:World),listed.size=ops.size→listed.toList.countP (fun b=> !b)≤fuel→
   listed.getD front.length false=false→
   (∀i o e,listed.getD i false=true→ops[i]?=some o→e∈o.after→Region.binds .any e=true→listed.getD e.on false=true)→
   J (fun i=>listed.getD i false) u w→
   (∀i,i<front.length→listed.getD i false=true→G (slotOf ops i) (u (slotOf ops i)))→wpAny P .any ops Q fuel listed ⟨mk u,df⟩ w:=by
 have hsz0:ops.size=front.length+1:=by
  have:=congrArg List.length hops
  simpa using this
 have hmlt: ∀k (h:k<ms.length),ms[k]<front.length:=fun k h=>by
  have:=List.all_eq_true.1 hmn ms[k] (List.getElem_mem h)
  simpa using this
 have hfr: ∀i,i<front.length→ ∃o,ops[i]?=some o∧o∈front:=by
  intro i hi
  refine⟨front[i],?_,List.getElem_mem _⟩
  rw [←Array.getElem?_toList,hops,List.getElem?_append_left hi,List.getElem?_eq_getElem hi]
 have hla:ops[front.length]?=some last:=by
  rw [←Array.getElem?_toList,hops]
  simp
 have hno: ∀(listed:Array Bool),listed.size=ops.size→listed.getD front.length false=false→Region.ready .any ops listed=[]→False:=by
  intro listed hsz hl hr
  have hall: ∀i,i<ops.size→listed.getD i false=true:=by
   intro i
   induction i using Nat.strongRecOn with
   |ind i ih=>
    intro hi
    cases hl:listed.getD i false with
    |true=>rfl
    |false=>
     exfalso
     have:i∈Region.ready .any ops listed:=by
      refine mem_ready.2 ⟨?_,ops[i],Array.getElem?_eq_getElem hi,fun e he hb=> ?_⟩
      ·have hi':i<listed.size:=by omega
       simpa [hi']using hl
      ·have:=tidyM_after ht (by omega) (Array.getElem?_eq_getElem hi) he hb
       exact ih _ this (by omega)
     rw [hr]at this
     cases this
  rw [hall _ (by omega)]at hl
  cases hl
 intro fuel
 induction fuel with
 |zero=>
  intro listed u w hsz hn hL hC hq hF
  exfalso
  have hjs:front.length<listed.size:=by omega
  have h1:listed[front.length]=false:=by simpa [hjs]using hL
  have h2:0<listed.toList.countP (fun b=> !b):=List.countP_pos_iff.2 ⟨false,by rw [←h1];simp,rfl⟩
  omega
 |succ fuel ih=>
  intro listed u w hsz hn hL hC hq hF
  refine⟨fun hr=>(hno listed hsz hL hr).elim,fun i hi=> ?_⟩
  obtain⟨h0,o,ho,hall⟩:=mem_ready.1 hi
  have hio:i<ops.size:=(Array.getElem?_eq_some_iff.1 ho).1
  have his:i<listed.size:=by omega
  have hl0:listed[i]=false:=by simpa [his]using h0
  have hli:listed.getD i false=false:=by simpa [his]using hl0
  have hcnt:(listed.setIfInBounds i true).toList.countP (fun b=> !b)≤fuel:=by
   have:(listed.setIfInBounds i true).toList=listed.toList.set i true:=by simp
   rw [this,List.countP_set (by simpa using his)]
   have h2:0<listed.toList.countP (fun b=> !b):=List.countP_pos_iff.2 ⟨false,by rw [←hl0];simp,rfl⟩
   have h3:(!(listed.toList[i]'(by simpa using his)))=true:=by simp [hl0]
   rw [if_pos h3]
   simp only [Bool.not_true,Bool.false_eq_true,if_false]
   omega
  have hC2:i<front.length→ ∀j oj e,(listed.setIfInBounds i true).getD j false=true→ops[j]?=some oj→e∈oj.after→Region.binds .any e=true→(listed.setIfInBounds i true).getD e.on false=true:=by
   intro hin j oj e hlj hoj he hb
   by_cases ej:j=i
   ·subst ej
    obtain rfl:oj=o:=Option.some.inj (hoj.symm.trans ho)
    have:=tidyM_after ht (by omega) ho he hb
    rw [getD_set_ne false (by omega)]
    exact hall e he hb
   ·rw [getD_set_ne false (Ne.symm ej)]at hlj
    have:=hC j oj e hlj hoj he hb
    by_cases ee:e.on=i
    ·rw [ee]
     simp [his]
    ·rw [getD_set_ne false (Ne.symm ee)]
     exact this
  by_cases hin:i<front.length
  ·obtain⟨o',ho',hmem⟩:=hfr i hin
   obtain rfl:o'=o:=Option.some.inj (ho'.symm.trans ho)
   have e1':=putsQ_at hp o' hmem u
   obtain⟨t,hd⟩: ∃t,o'.dst.getD 0=t:=⟨_,rfl⟩
   have e1: ∀v,(⟨mk u,df⟩:Act).put o'.dst v=⟨mk (upd u t v),df⟩:=fun v=>by rw [←hd];exact e1' v
   have hslot:slotOf ops i=t:=by rw [←hd];simp [slotOf,ho]
   have hne: ∀j,j<front.length→j≠i→slotOf ops j≠t:=fun j hj e h=>e (tidyM_slot ht hj hin (by rw [h,hslot]))
   have hj:=hq
   have hfi:front[i]?=some o':=by
    rw [←Array.getElem?_toList,hops,List.getElem?_append_left hin]at ho
    exact ho
   have hstep:=stepsS_at hs i o' hfi
   rw [Nat.zero_add]at hstep
   have hFn: ∀v,G t v→ ∀j,j<front.length→(listed.setIfInBounds i true).getD j false=true→G (slotOf ops j) (upd u t v (slotOf ops j)):=fun v hGv j hj2 hlj=>by
    by_cases e:j=i
    ·subst e
     rw [hslot]
     simpa [upd]using hGv
    ·have hlj':listed.getD j false=true:=by
      rw [getD_set_ne false (Ne.symm e)]at hlj
      exact hlj
     simpa [upd,hne j hj2 e]using hF j hj2 hlj'
   by_cases hx:ms.contains i=true
   ·rw [if_pos hx]at hstep
    refine wpOp_step ho (fun K hK=>hstep _ u w hj hli (fun e he hb=>hall e (by simpa using he) hb) (deps_of _ fun e he hb=> ?_) K ?_)
    ·have he':e∈o'.after:=by simpa using he
     have:=tidyM_after ht (by omega) ho he' hb
     exact hF e.on (by omega) (hall e he' hb)
    ·intro v w' hj2 hGv
     refine hK _ _ ?_
     rw [hd]at hGv hj2
     rw [e1]
     refine ih _ _ w' (by simpa using hsz) hcnt (by rw [getD_set_ne false (by omega)];exact hL) (hC2 hin) (hJ _ _ _ _ _ (fun m hm=>⟨?_,rfl⟩) hj2) (hFn v hGv)
     unfold also
     by_cases e:m=i
     ·subst e
      simp [his]
     ·rw [if_neg e,getD_set_ne false (Ne.symm e)]
   ·rw [if_neg hx]at hstep
    have hnm:i∉ms:=fun h=>hx (by simpa using h)
    refine wpOp_step ho (fun K hK=>hstep _ u w hj (deps_of _ fun e he hb=> ?_) K ?_)
    ·have he':e∈o'.after:=by simpa using he
     have:=tidyM_after ht (by omega) ho he' hb
     exact hF e.on (by omega) (hall e he' hb)
    ·intro v hGv
     refine hK _ _ ?_
     rw [hd]at hGv
     rw [e1]
     refine ih _ _ w (by simpa using hsz) hcnt (by rw [getD_set_ne false (by omega)];exact hL) (hC2 hin) (hJ _ _ u _ w (fun m hm=>⟨?_,?_⟩) hj) (hFn v hGv)
     ·have hne2:i≠m:=fun e=>hnm (e▸hm)
      rw [getD_set_ne false hne2]
     ·have hml:m<front.length:=by
       have:=List.all_eq_true.1 hmn m hm
       simpa using this
      have:=hne m hml (fun e=>hnm (e▸hm))
      simp [upd,this]
  ·obtain rfl:i=front.length:=by omega
   obtain rfl:last=o:=Option.some.inj (hla.symm.trans ho)
   have hall2: ∀d j,j+d+1=front.length→listed.getD j false=true:=by
    intro d
    induction d using Nat.strongRecOn with
    |ind d ihd=>
     intro j hj
     obtain⟨k,o,e,hjk,hkn,hok,he,heo,hb⟩:=tidyM_wait ht (show j<front.length by omega)
     by_cases hk:k=front.length
     ·subst hk
      obtain rfl:o=last:=Option.some.inj (hok.symm.trans ho)
      have:=hall e he hb
      rwa [heo]at this
     ·have h1:=ihd (front.length-k-1) (by omega) k (by omega)
      have:=hC k o e h1 hok he hb
      rwa [heo]at this
   have hj:J (fun _=>true) u w:=hJ _ _ _ _ _ (fun m hm=>⟨by
    have hml:m<front.length:=by
     have:=List.all_eq_true.1 hmn m hm
     simpa using this
    exact hall2 (front.length-m-1) m (by omega),rfl⟩) hq
   have hA:Alls (fun t v _=>G t v) u w front:=by
    refine alls_of _ fun o hmo=> ?_
    obtain⟨j,hj2,rfl⟩:=List.mem_iff_getElem.1 hmo
    have hoj:ops[j]?=some front[j]:=by rw [←Array.getElem?_toList,hops,List.getElem?_append_left hj2,List.getElem?_eq_getElem hj2]
    have:=hF j hj2 (hall2 (front.length-j-1) j (by omega))
    have es:slotOf ops j=(front[j]).dst.getD 0:=by simp [slotOf,hoj]
    rw [es]at this
    exact this
   refine wpOp_step ho (fun K hK=>hend u w hj hA K (fun a w' hq=>hK _ _ ?_))
   have hr:Region.ready .any ops (listed.setIfInBounds front.length true)=[]:=by
    cases h:Region.ready .any ops (listed.setIfInBounds front.length true)with
    |nil=>rfl
    |cons j l=>
     exfalso
     have hj:j∈Region.ready .any ops (listed.setIfInBounds front.length true):=by rw [h];exact List.mem_cons_self
     obtain⟨h0,o,ho,_⟩:=mem_ready.1 hj
     have hjs:j<ops.size:=(Array.getElem?_eq_some_iff.1 ho).1
     by_cases e:j=front.length
     ·subst e
      simp [his]at h0
     ·have:=hall2 (front.length-j-1) j (by omega)
      have h1:(listed.setIfInBounds front.length true).getD j false=true:=by rw [getD_set_ne false (Ne.symm e)];exact this
      have hj2:j<(listed.setIfInBounds front.length true).size:=by simp;omega
      rw [Array.getD_eq_getD_getElem?,Array.getElem?_eq_getElem hj2]at h1
      simp only [Option.getD_some]at h1
      rw [Array.getD_eq_getD_getElem?,Array.getElem?_eq_getElem hj2]at h0
      simp only [Option.getD_some]at h0
      rw [h1]at h0
      cases h0
   cases fuel with
   |zero=>exact⟨hr,hq⟩
   |succ f=>exact⟨fun _=>hq,fun i hi=>by rw [hr]at hi;cases hi⟩
theorem wp_region_setM {id:Nat}{a:Act}{w0:World}(mk:(Nat→Value)→Array Value)(G:Nat→Value→Prop)(J:(Nat→Bool)→(Nat→Value)→World→Prop)(ms:List Nat)(df:List Deferred)(u0:Nat→Value)(ha:a=⟨mk u0,df⟩)(hm:P.follows .mixedOrders=true)
  (n:Nat) (last:Oper) (hn:ops.size=n+1) (hl:ops[n]?=some last) (ht:tidyM ops n=true) (hmn:ms.all (fun m=>decide (m<n))=true) (hp:PutsQ mk df (ops.toList.take n))
  (hJ: ∀L L' u u' w,(∀m∈ms,L m=L' m∧u (slotOf ops m)=u' (slotOf ops m))→J L u w→J L' u' w) (hJ0:J (fun _=>false) u0 w0.drew)
  (hs:StepsS P ops Q mk df G J ms 0 (ops.toList.take n))
  (hend: ∀u w,J (fun _=>true) u w→Alls (fun t v _=>G t v) u w (ops.toList.take n)→ ∀K:Act→World→Prop,Shut (∀a w',Q .normal a w'→K a w')→
   if Region.wanted last (yielded ops (mk u))=true then Oper.wp P last ⟨mk u,df⟩ w K Q else K ((⟨mk u,df⟩:Act).put last.dst undef) w):(Code.region id ops true).wp P Q a w0:=by
 subst ha
 have hlen:(ops.toList.take n).length=n:=by simp;omega
 have hops:ops.toList=ops.toList.take n++[last]:=by
  have h1:ops.toList[n]?=some last:=by simpa using hl
  obtain⟨h2,h3⟩:=List.getElem?_eq_some_iff.1 h1
  have h4:=List.take_succ_eq_append_getElem h2
  rw [h3]at h4
  rw [←h4,List.take_of_length_le (by simp;omega)]
 refine wp_region_any hm (setM_go (ops.toList.take n) last ms hops (by rw [hlen];exact ht) (by rw [hlen];exact hmn) hp hJ hs hend _ _ u0 _ (by simp) ?_ (rep_getD _ _) ?_ (hJ _ _ _ _ _ (fun m hm=>⟨(rep_getD _ _).symm,rfl⟩) hJ0) ?_)
 ·have:=List.countP_le_length (p:=fun b=> !b) (l:=(Array.replicate ops.size false).toList)
  simpa using this
 ·intro i o e h
  rw [rep_getD]at h
  cases h
 ·intro i hi h
  rw [rep_getD]at h
  cases h
end
end Go.Proofs.YthideplpcnhncaaGreatDoor
