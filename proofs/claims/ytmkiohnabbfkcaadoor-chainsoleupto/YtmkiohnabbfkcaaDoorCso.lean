/- The walk of ChainSole; of no statement by itself. -/
import Derived.Test.YtmkiohnabbfkcaaDoorCrn
namespace Go.Proofs.YtmkiohnabbfkcaaDoor
open Go.RowKit
open St12
set_option linter.unusedVariables false
set_option linter.unusedSimpArgs false
variable {Tab : World → Prop}
theorem flL_one {w : World} {id : Nat} {a : Option Addr} {n c : Nat} {bs : List Nat} (h : (⟨id, a, n, c, bs⟩ : FlV).ok w) {o : Obj} (ho : o = .cells #[.int .u64 (id : Int), .slice a n c] 36) : FlL (w.alloc o) (some ⟨w.heap.size, 0, none⟩) [⟨id, a, n, c, bs⟩] := by
  subst ho
  intro k q hk
  match k, hk with
  | 0, hk =>
    simp at hk
    subst hk
    have hb := heap_alloc_last w (.cells #[.int .u64 (id : Int), .slice a n c] 36)
    exact ⟨h.new (chg_one _ _), _, 0, rfl, cell0 hb, cell1 hb⟩
  | k + 1, hk => simp at hk
theorem ok_of_by {w : World} {B id : Nat} {a : Option Addr} {n c : Nat} {bs : List Nat} (h : ByO w B (.slice a n c) bs) (h1 : id < 18446744073709551616) (h3 : Rc.Dig bs) (h5 : n ≤ 140737488351232) : (⟨id, a, n, c, bs⟩ : FlV).ok w :=
  ⟨h1, (byO_row h).1, h3, (byO_row h).2.2, h5⟩
set_option maxHeartbeats 16000000 in
set_option maxRecDepth 100000 in
theorem sole20_any (S : ChainSpec Tab) (id : Nat) (fa : Option Addr) (fn fc : Nat) (ps : List Nat) (ba : Option Addr) (n bc : Nat) (bs : List Nat) (w0 : World) (hT : Tab w0) (hf : (⟨id, fa, fn, fc, ps⟩ : FlV).ok w0) (hb : Row8 w0 ba n bc (nums bs)) (hd : Rc.Dig bs) (hbc : n ≤ bc) (hn : n ≤ 1048576) (hfn : fn ≤ 1048576) : Calls Tryd.prog 4 #[.agg #[.int .u64 (id : Int), .slice fa fn fc], .slice ba n bc] w0 fun e w' => e = .returned (.bool true) ∧ Chg (fun _ => False) w0 w' := by
  obtain ⟨iu, hiu, hu0, hu1, hu2⟩ := info_parts info5u
  obtain ⟨y, hy⟩ : ∃ y : Int, (id : Int) = y := ⟨_, rfl⟩
  have HY : Hid ((id : Int) = y) := hy
  rw [hy]
  have HT : Hid (Tab w0) := hT
  have HF : Hid ((⟨id, fa, fn, fc, ps⟩ : FlV).ok w0) := hf
  have HB : Hid (Row8 w0 ba n bc (nums bs)) := hb
  have HD : Hid (Rc.Dig bs) := hd
  have hbl : bs.length = n := by have h9 := hb.1; rw [nums_len] at h9; exact h9
  have HBL : Hid (bs.length = n) := hbl
  have HPL : Hid (ps.length = fn) := hf.len
  have HN : Hid (∀ x ww, Calls Tryd.prog 8 #[.int .i64 x] ww fun e w' => e = .returned (.int .i64 x) ∧ w' = ww) := num20_q
  have HK : Hid (∀ ww, Chg (fun _ => False) w0 ww → Calls Tryd.prog 19 #[] ww fun e w' => e = .returned (.bool true) ∧ Chg (fun _ => False) ww w') := fun ww hc => known20_any S ww (S.keep HT.out hc)
  have HG : Hid (∀ ww, Chg (fun _ => False) w0 ww → Calls Tryd.prog 12 #[.slice ba n bc] ww fun e w' => ∃ pv, e = .returned (.tuple #[.agg #[.int .u64 ((Cn20.getF bs).1.id : Int), pv], .int .i64 ((Cn20.getF bs).2.1 : Int), .int .i64 (Cn20.getF bs).2.2]) ∧ ByO w' ww.heap.size pv (Cn20.getF bs).1.ps ∧ Chg (fun _ => False) ww w') := fun ww hc => S.get ba n bc bs ww (S.keep HT.out hc) (Bk.row8_chg HB.out hc) HD.out hbc (by omega)
  have hni : (n : Int) ≤ 1048576 := by omega
  have hidn : y < 18446744073709551616 := by have := hf.id; simp only at this; omega
  have hid0 : 0 ≤ y := by omega
  have cA := chg_one w0 (.cells #[.int .u64 y, .slice fa fn fc] 36)
  have bA := heap_alloc_last w0 (.cells #[.int .u64 y, .slice fa fn fc] 36)
  have HCA : Hid (Chg (fun _ => False) w0 (w0.alloc (.cells #[.int .u64 y, .slice fa fn fc] 36))) := cA
  have HP : Hid _ := S.put id fa fn fc ps (w0.alloc (.cells #[.int .u64 y, .slice fa fn fc] 36)) (S.keep hT cA) (hf.new cA)
  rw [hy] at HP
  have m0 : (w0.alloc (.cells #[.int .u64 y, .slice fa fn fc] 36)).cell? ⟨w0.heap.size, 0, none⟩ = some (.int .u64 y) := cell0 bA
  have m1 : (w0.alloc (.cells #[.int .u64 y, .slice fa fn fc] 36)).cell? ⟨w0.heap.size, 1, none⟩ = some (.slice fa fn fc) := cell1 bA
  have HBA : Hid ((w0.alloc (.cells #[.int .u64 y, .slice fa fn fc] 36)).heap[w0.heap.size]? = some (.cells #[.int .u64 y, .slice fa fn fc] 36 (0, 0))) := bA
  have hPD := Cn20.put_dig (f := ⟨id, ps⟩) hf.dig
  obtain ⟨P, er, hPe⟩ : ∃ P er, Cn20.putF ⟨id, ps⟩ = (P, er) := ⟨_, _, rfl⟩
  rw [hPe] at HP hPD
  simp only at HP hPD
  have HPE : Hid (Cn20.putF ⟨id, ps⟩ = (P, er)) := hPe
  have HPD : Hid (Rc.Dig P) := hPD
  clear hT hf hb hd hbl cA bA hPe hPD hy
  go_enter Tryd.func4, Tryd.ntmps4
  go_wp2_with fail
  refine Calls.mono HP.out ?_
  rintro z w1 ⟨ov, rfl, ho, c1⟩
  obtain ⟨oa, oc, rfl⟩ := byO_form ho
  have HO1 : Hid (ByO w1 w0.heap.size (.slice oa P.length oc) P) := owns_base ho HCA.out.size
  have HC1 : Hid (Chg (fun _ => False) w0 w1) := chg_then HCA.out c1
  have HB1 : Hid (w1.heap[w0.heap.size]? = some (.cells #[.int .u64 y, .slice fa fn fc] 36 (0, 0))) := blk_keep HBA.out c1 (fun f => f)
  have m2 : w1.cell? ⟨w0.heap.size, 0, none⟩ = some (.int .u64 y) := cell0 HB1.out
  obtain ⟨L, hL⟩ : ∃ L, P.length = L := ⟨_, rfl⟩
  have HL : Hid (P.length = L) := hL
  rw [hL] at HO1 ⊢
  clear ho c1 HP HCA HBA m0 m1 hL
  go_upto_if 26 with fail
  go_cut [] (fun wx => Hid (Chg (fun _ => False) w0 wx))
  case first =>
    by_cases hbig : 9223372036854775807 < id
    · have d0 : decide ((9223372036854775807 : Int) < y) = true := decide_eq_true (by have := HY.out; omega)
      have hpe := HPE.out
      unfold Cn20.putF at hpe
      rw [if_pos (by exact hbig)] at hpe
      simp only [Prod.mk.injEq] at hpe
      obtain ⟨rfl, rfl⟩ := hpe
      obtain rfl : L = 0 := HL.out.symm
      clear hbig
      rw [d0]
      go_wp2_with fail
      refine Calls.mono (HN.out _ _) ?_
      rintro z w9 ⟨rfl, rfl⟩
      go_wp2_with fail
      go_meet
      exact HC1.out
    · have d0 : decide ((9223372036854775807 : Int) < y) = false := decide_eq_false (by have := HY.out; omega)
      have hid : id ≤ 9223372036854775807 := by omega
      have hpe := HPE.out
      rw [Cn20.put_ok (f := ⟨id, ps⟩) hid] at hpe
      simp only [Prod.mk.injEq] at hpe
      obtain ⟨hP, rfl⟩ := hpe
      have hPl : P.length ≤ 1048576 + 18 := by
        rw [← hP, List.length_append, List.length_append, HPL.out]
        have := vbn_le id
        have := vbn_le ps.length
        rw [HPL.out] at this
        omega
      have hGP : Cn20.getF (P ++ bs) = (⟨id, ps⟩, P.length, 0) := by
        have := Cn20.get_put (f := ⟨id, ps⟩) hid (by show ps.length ≤ _; rw [HPL.out]; omega) bs
        rw [HPE.out] at this
        exact this
      have HGP : Hid (Cn20.getF (P ++ bs) = (⟨id, ps⟩, P.length, 0)) := hGP
      have HGC : Hid (∀ i, i < P.length → Cn20.getF (P.take i) = (Cn20.zeroF, 0, 1)) := fun i hi => by
        have := Cn20.get_cut (f := ⟨id, ps⟩) hid (by show ps.length ≤ _; rw [HPL.out]; omega) (c := i) (by rw [HPE.out]; exact hi)
        rw [HPE.out] at this
        exact this
      rw [HL.out] at hPl HGP HGC
      have hLi : (L : Int) ≤ 1048594 := by omega
      have HID : Hid (id ≤ 9223372036854775807) := hid
      clear hP hGP hbig HPE hid
      have hro1 := byO_row HO1.out
      have c3 := chg_one w1 (.cells #[] 5)
      have hown3 := own_empty w1 5
      have hsrc3 := (Bk.row8_chg hro1.1 c3).src
      have hone3 := oneB P
      have hB3 : w1.heap.size ≤ (w1.alloc (.cells #[] 5)).heap.size := c3.size
      have HC3 : Hid (Chg (fun _ => False) w1 (w1.alloc (.cells #[] 5))) := c3
      clear c3 hro1
      rw [d0]
      go_wp2_with (at_builtin; refine wpList_append_moved rfl _ _ 23 rfl w1.heap.size 5 iu (.int .u8 0) 1 1 Tryd.underlying23 hiu hu0 hu1 hu2 rfl (by decide) _ 0 [] rfl oa L oc rfl ((nums P).map (Value.int .u8)) ?h1 ?h2 ?h3 ?m1 ?m2 ?m3 ?_)
      case h1 => exact hown3
      case h2 => exact hsrc3
      case h3 => exact hone3
      case m1 => unfold maxLen; omega
      case m2 => omega
      case m3 => exact hB3
      intro v4 w4 ho4 hg4 hm4
      have c4 : Chg (fun _ => False) w1 w4 := HC3.out.grown hg4 (fun j e => .inr (by simp [Value.ownBlock] at e; omega))
      try simp only [List.nil_append, Nat.zero_add] at ho4
      obtain ⟨a4, d4, rfl⟩ := form1 ho4
      have hsrc5 := (Bk.row8_chg HB.out (chg_then HC1.out c4)).src
      have hone5 := oneB bs
      have hB5 : w1.heap.size ≤ w4.heap.size := c4.size
      have HC4 : Hid (Chg (fun _ => False) w1 w4) := c4
      have hown5 := ho4
      have HLT : Hid (∀ g, (Value.slice a4 L d4).ownBlock = some g → w1.heap.size ≤ g) := fun g e => (ho4.lt g e).1
      clear ho4 hg4 hm4 c4 hown3 hsrc3 hone3 hB3 HC3
      go_wp2_with (at_builtin; refine wpList_append_moved rfl _ _ 23 rfl w1.heap.size 5 iu (.int .u8 0) 1 1 Tryd.underlying23 hiu hu0 hu1 hu2 rfl (by decide) _ L ((nums P).map (Value.int .u8)) rfl ba n bc rfl ((nums bs).map (Value.int .u8)) ?h1 ?h2 ?h3 ?m1 ?m2 ?m3 ?_)
      case h1 => exact hown5
      case h2 => exact hsrc5
      case h3 => exact hone5
      case m1 => unfold maxLen; omega
      case m2 => omega
      case m3 => exact hB5
      intro v6 w6 ho6 hg6 hm6
      have c6 : Chg (fun _ => False) w1 w6 := HC4.out.grown hg6 (fun j e => .inr (HLT.out j e))
      have hby := byO_app ho6
      obtain ⟨a6, d6, rfl⟩ := form1 ho6
      obtain ⟨hrow, hlen, hcap⟩ := byO_row hby
      have HC6 : Hid (Chg (fun _ => False) w0 w6) := chg_then HC1.out c6
      have HO6 : Hid (ByO w6 w0.heap.size (.slice oa L oc) P) := HO1.out.new c6
      have HB6 : Hid (w6.heap[w0.heap.size]? = some (.cells #[.int .u64 y, .slice fa fn fc] 36 (0, 0))) := blk_keep HB1.out c6 (fun f => f)
      have HGX : Hid _ := S.get a6 (L + n) d6 (P ++ bs) w6 (S.keep HT.out HC6.out) hrow (dig_app HPD.out HD.out) hcap (by omega)
      rw [HGP.out] at HGX
      simp only at HGX
      rw [HY.out] at HGX
      clear ho6 hg6 hm6 c6 hby hrow hlen hcap hown5 hsrc5 hone5 hB5 HC4 HLT HGP HO1 HB1 m2 HC1
      go_wp2_with fail
      refine Calls.mono HGX.out ?_
      rintro z w7 ⟨pv, rfl, hp7, c7⟩
      obtain ⟨pa, pc, rfl⟩ := byO_form hp7
      have hpl : ps.length = fn := HPL.out
      rw [hpl] at hp7 ⊢
      have c8 := chg_one w7 (.cells #[.int .u64 y, .slice pa fn pc] 36)
      have b8 := heap_alloc_last w7 (.cells #[.int .u64 y, .slice pa fn pc] 36)
      have HC8 : Hid (Chg (fun _ => False) w0 (w7.alloc (.cells #[.int .u64 y, .slice pa fn pc] 36))) := chg_then (chg_then HC6.out c7) c8
      have HO8 : Hid (ByO (w7.alloc (.cells #[.int .u64 y, .slice pa fn pc] 36)) w0.heap.size (.slice oa L oc) P) := HO6.out.new (chg_then c7 c8)
      have HQ8 : Hid ((⟨id, pa, fn, pc, ps⟩ : FlV).ok (w7.alloc (.cells #[.int .u64 y, .slice pa fn pc] 36))) := (ok_of_by hp7 HF.out.id HF.out.dig (by omega)).new c8
      have HF8 : Hid ((⟨id, fa, fn, fc, ps⟩ : FlV).ok (w7.alloc (.cells #[.int .u64 y, .slice pa fn pc] 36))) := HF.out.new HC8.out
      have g0 : (w7.alloc (.cells #[.int .u64 y, .slice pa fn pc] 36)).cell? ⟨w7.heap.size, 0, none⟩ = some (.int .u64 y) := cell0 b8
      have g1 : (w7.alloc (.cells #[.int .u64 y, .slice pa fn pc] 36)).cell? ⟨w7.heap.size, 1, none⟩ = some (.slice pa fn pc) := cell1 b8
      have f0 : (w7.alloc (.cells #[.int .u64 y, .slice pa fn pc] 36)).cell? ⟨w0.heap.size, 0, none⟩ = some (.int .u64 y) := cell_chg (cell0 HB6.out) (chg_then c7 c8)
      have f1 : (w7.alloc (.cells #[.int .u64 y, .slice pa fn pc] 36)).cell? ⟨w0.heap.size, 1, none⟩ = some (.slice fa fn fc) := cell_chg (cell1 HB6.out) (chg_then c7 c8)
      clear hp7 c7 c8 b8 HGX HC6 HO6 HB6
      go_upto_region 6 with fail
      generalize w7.alloc (.cells #[.int .u64 y, .slice pa fn pc] 36) = W8 at *
      generalize w7.heap.size = xb at *
      have x1 : ((L : Int) != (L : Int)) = false := by simp
      go_wp2_with fail
      refine Calls.mono (HN.out _ _) ?_
      rintro z w9 ⟨rfl, rfl⟩
      go_wp2_with fail
      refine Calls.mono (HN.out _ _) ?_
      rintro z w9 ⟨rfl, rfl⟩
      have cq := chg_one w9 (.cells #[.int .u64 y, .slice pa fn pc] 36)
      have f2 := cell_chg f0 cq
      have f3 := cell_chg f1 cq
      have cq2 := chg_one (w9.alloc (.cells #[.int .u64 y, .slice pa fn pc] 36)) (.cells #[.int .u64 y, .slice fa fn fc] 36)
      have HSM : Hid _ := same20_any ((w9.alloc (.cells #[.int .u64 y, .slice pa fn pc] 36)).alloc (.cells #[.int .u64 y, .slice fa fn fc] 36)) (some ⟨w9.heap.size, 0, none⟩) (some ⟨w9.heap.size + 1, 0, none⟩) 1 1 1 [⟨id, pa, fn, pc, ps⟩] [⟨id, fa, fn, fc, ps⟩] ((flL_one HQ8.out (by rw [HY.out])).new cq2) (by
        have := flL_one (HF8.out.new cq) (o := .cells #[.int .u64 y, .slice fa fn fc] 36) (by rw [HY.out])
        rw [World.size_alloc] at this
        exact this) rfl rfl (by decide)
      have HC10 : Hid (Chg (fun _ => False) w9 ((w9.alloc (.cells #[.int .u64 y, .slice pa fn pc] 36)).alloc (.cells #[.int .u64 y, .slice fa fn fc] 36))) := chg_then cq cq2
      clear cq cq2
      go_wp2_with fail
      refine Calls.mono HSM.out ?_
      rintro z w11 ⟨rfl, c11⟩
      have HC11 : Hid (Chg (fun _ => False) w0 w11) := chg_then (chg_then HC8.out HC10.out) c11
      have HO11 : Hid (ByO w11 w0.heap.size (.slice oa L oc) P) := HO8.out.new (chg_then HC10.out c11)
      clear HSM HC10 HC8 HO8 c11 f0 f1 f2 f3 g0 g1 HQ8 HF8 x1
      go_wp2_with fail
      go_loopw [69] (fun i wr => ∃ k : Nat, k ≤ L ∧ i = .int .i64 (k : Int) ∧ Hid (Chg (fun _ => False) w11 wr)) (fun i _ => L - (intOf i).toNat)
      case atStart => exact ⟨0, by omega, rfl, Chg.refl _ _⟩
      case round =>
        obtain ⟨k, hk, rfl, HC⟩ := hrel
        have hki : (k : Int) ≤ (L : Int) := by omega
        by_cases hlt : k < L
        · have d1 : decide ((k : Int) < (L : Int)) = true := decide_eq_true (by omega)
          have d1' : decide (k < L) = true := decide_eq_true hlt
          have hoc : L ≤ oc := (byO_row HO11.out).2.2
          have hcut : ∀ ww, (Instr.sliceAt 23 (.slice oa L oc) none (some (.int .i64 (k : Int))) none).run Tryd.prog ww = .ok (.slice oa k oc) ww := fun ww => run_cutZ_hi undBy elemBy sizeBy _ L oc k ww (by omega)
          have hrk := row8_take (Bk.row8_chg (byO_row HO11.out).1 HC.out) (i := k) (by omega)
          have HGX : Hid _ := S.get oa k oc (P.take k) wr (S.keep HT.out (chg_then HC11.out HC.out)) hrk (dig_take HPD.out k) (by omega) (by omega)
          rw [HGC.out k hlt] at HGX
          simp only [Cn20.zeroF] at HGX
          clear hrk
          go_wp2_with fail
          refine Calls.mono HGX.out ?_
          rintro z w12 ⟨pv, rfl, hp, c12⟩
          obtain ⟨qa, qc, rfl⟩ := byO_form hp
          have c13 := chg_one w12 (.cells #[.int .u64 0, .slice qa 0 qc] 36)
          have b13 := heap_alloc_last w12 (.cells #[.int .u64 0, .slice qa 0 qc] 36)
          have HC13 : Hid (Chg (fun _ => False) w11 (w12.alloc (.cells #[.int .u64 0, .slice qa 0 qc] 36))) := chg_then (chg_then HC.out c12) c13
          have g0 : (w12.alloc (.cells #[.int .u64 0, .slice qa 0 qc] 36)).cell? ⟨w12.heap.size, 0, none⟩ = some (.int .u64 0) := cell0 b13
          have g1 : (w12.alloc (.cells #[.int .u64 0, .slice qa 0 qc] 36)).cell? ⟨w12.heap.size, 1, none⟩ = some (.slice qa 0 qc) := cell1 b13
          simp only [List.length_nil, Int.natCast_zero]
          clear hp c12 c13 b13 HGX HC
          go_wp2_with fail
          refine Calls.mono (HN.out _ _) ?_
          rintro z w14 ⟨rfl, rfl⟩
          go_wp2
          go_roundw
          case rel => exact ⟨k + 1, by omega, by go_num, HC13⟩
          case measure => simp [intOf]; omega
        · have d1 : decide ((k : Int) < (L : Int)) = false := decide_eq_false (by omega)
          have d1' : decide (k < L) = false := decide_eq_false hlt
          have HCZ : Hid (Chg (fun _ => False) w0 wr) := chg_then HC11.out HC.out
          go_wp2_with fail
          go_meet
          exact HCZ.out
  case rest =>
    have HCC : Hid (Chg (fun _ => False) w0 wc) := hcut
    clear hcut
    have hpos := Cn20.get_pos bs
    have hgd := Cn20.get_dig HD.out
    have hbk := fun h => Cn20.get_back HD.out h
    obtain ⟨G, gn, ge, hGe⟩ : ∃ G gn ge, Cn20.getF bs = (G, gn, ge) := ⟨_, _, _, rfl⟩
    have HGB : Hid _ := HG.out wc HCC.out
    rw [hGe] at HGB hpos hgd hbk
    simp only at HGB hpos hgd hbk
    obtain ⟨gid, gps⟩ := G
    simp only at HGB hgd hbk
    obtain ⟨y2, hy2⟩ : ∃ y2 : Int, (gid : Int) = y2 := ⟨_, rfl⟩
    have HY2 : Hid ((gid : Int) = y2) := hy2
    rw [hy2] at HGB
    rw [HBL.out] at hpos
    have HGD : Hid (Rc.Dig gps) := hgd
    have HBK : Hid (ge = 0 → Cn20.putF ⟨gid, gps⟩ = (bs.take gn, 0) ∧ gid ≤ 9223372036854775807 ∧ gps.length ≤ gn) := hbk
    have hgn : (gn : Int) ≤ (n : Int) := by omega
    have HPO : Hid (ge = 0 ∨ ((ge = 1 ∨ ge = 2) ∧ gn = 0)) := by rcases hpos.2 with h | ⟨h, h2, _⟩; exact .inl h; exact .inr ⟨h, h2⟩
    clear hGe hgd hbk hpos hy2 HG
    go_wp2_with fail
    refine Calls.mono HGB.out ?_
    rintro z w2 ⟨pv, rfl, hp2, c2⟩
    obtain ⟨pa, pc, rfl⟩ := byO_form hp2
    obtain ⟨pl, hpl⟩ : ∃ pl, gps.length = pl := ⟨_, rfl⟩
    have HPL2 : Hid (gps.length = pl) := hpl
    rw [hpl] at hp2 ⊢
    have c3 := chg_one w2 (.cells #[.int .u64 y2, .slice pa pl pc] 36)
    have b3 := heap_alloc_last w2 (.cells #[.int .u64 y2, .slice pa pl pc] 36)
    have HC3 : Hid (Chg (fun _ => False) w0 (w2.alloc (.cells #[.int .u64 y2, .slice pa pl pc] 36))) := chg_then (chg_then HCC.out c2) c3
    have HP3 : Hid (ByO (w2.alloc (.cells #[.int .u64 y2, .slice pa pl pc] 36)) wc.heap.size (.slice pa pl pc) gps) := hp2.new c3
    have g0 : (w2.alloc (.cells #[.int .u64 y2, .slice pa pl pc] 36)).cell? ⟨w2.heap.size, 0, none⟩ = some (.int .u64 y2) := cell0 b3
    have g1 : (w2.alloc (.cells #[.int .u64 y2, .slice pa pl pc] 36)).cell? ⟨w2.heap.size, 1, none⟩ = some (.slice pa pl pc) := cell1 b3
    clear hp2 c2 c3 b3 hpl HGB HCC
    go_upto_region 16 with fail
    generalize w2.alloc (.cells #[.int .u64 y2, .slice pa pl pc] 36) = W3 at *
    generalize w2.heap.size = xb at *
    go_wp2_with fail
    refine Calls.mono (HN.out _ _) ?_
    rintro z w4 ⟨rfl, rfl⟩
    rcases HPO.out with rfl | ⟨rfl | rfl, rfl⟩
    · obtain ⟨k1, k2, k3⟩ := HBK.out rfl
      have hok : (⟨gid, pa, pl, pc, gps⟩ : FlV).ok w4 := ok_of_by HP3.out (by omega) HGD.out (by rw [HPL2.out] at k3; omega)
      have HPP : Hid _ := S.put gid pa pl pc gps w4 (S.keep HT.out HC3.out) hok
      rw [k1] at HPP
      simp only at HPP
      rw [HY2.out] at HPP
      have hlt : (bs.take gn).length = gn := by rw [List.length_take, HBL.out]; omega
      clear k1 k2 k3 hok
      go_wp2_with fail
      refine Calls.mono HPP.out ?_
      rintro z w5 ⟨ov, rfl, ho, c5⟩
      obtain ⟨oa, oc, rfl⟩ := byO_form ho
      rw [hlt] at ho ⊢
      have HC5 : Hid (Chg (fun _ => False) w0 w5) := chg_then HC3.out c5
      have hcv1 : ∀ k, (convert 23 9 (.slice oa gn oc)).run Tryd.prog (w5.drewN k) = .ok (.string (strOfNums (nums (bs.take gn)))) (w5.drewN k) := fun k => Bk.conv8 (byO_row ho).1 k
      have hcv2 : ∀ k, (convert 23 9 (.slice ba gn bc)).run Tryd.prog (w5.drewN k) = .ok (.string (strOfNums (nums (bs.take gn)))) (w5.drewN k) := fun k => Bk.conv8 (row8_take (Bk.row8_chg HB.out HC5.out) (i := gn) (by omega)) k
      generalize strOfNums (nums (bs.take gn)) = ST at *
      have hss : (ST.toList == ST.toList) = true := by simp
      have x1 : ((gn : Int) == (gn : Int)) = true := by simp
      have x2 : decide ((gn : Int) ≤ (n : Int)) = true := decide_eq_true hgn
      have x3 : decide (gn ≤ n) = true := decide_eq_true (by omega)
      have hcut : ∀ ww, (Instr.sliceAt 23 (.slice ba n bc) none (some (.int .i64 (gn : Int))) none).run Tryd.prog ww = .ok (.slice ba gn bc) ww := fun ww => run_cutZ_hi undBy elemBy sizeBy _ n bc gn ww (by omega)
      clear ho c5 g0 g1 HPP HP3 hlt HC3
      go_upto_region 19 with fail
      go_quiet (first | (go_at_call 8; exact Calls.quiet_of_same (HN.out _ _)))
      have HC9 : Hid (Chg (fun _ => False) w0 (w5.drewN nq)) := chg_then HC5.out (chg_drewN w5 nq)
      clear hcv1 hcv2 hss x1 x2 x3 hcut
      go_wp2
      go_ret
      exact ⟨rfl, HC9.out⟩
    · go_wp2_with fail
      refine Calls.mono (HN.out _ _) ?_
      rintro z w5 ⟨rfl, rfl⟩
      go_wp2_with fail
      refine Calls.mono (HK.out _ HC3.out) ?_
      rintro z w6 ⟨rfl, c6⟩
      have HC9 : Hid (Chg (fun _ => False) w0 w6) := chg_then HC3.out c6
      clear c6
      go_wp2
      go_ret
      exact ⟨rfl, HC9.out⟩
    · go_wp2_with fail
      refine Calls.mono (HN.out _ _) ?_
      rintro z w5 ⟨rfl, rfl⟩
      go_wp2_with fail
      refine Calls.mono (HN.out _ _) ?_
      rintro z w5 ⟨rfl, rfl⟩
      go_wp2_with fail
      refine Calls.mono (HK.out _ HC3.out) ?_
      rintro z w6 ⟨rfl, c6⟩
      have HC9 : Hid (Chg (fun _ => False) w0 w6) := chg_then HC3.out c6
      clear c6
      go_wp2
      go_ret
      exact ⟨rfl, HC9.out⟩
end Go.Proofs.YtmkiohnabbfkcaaDoor
