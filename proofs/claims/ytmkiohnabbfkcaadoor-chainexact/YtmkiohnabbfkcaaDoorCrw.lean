/- The document's own Of; of no statement by itself. -/
import Derived.Test.YtmkiohnabbfkcaaDoorCrv
import Derived.Test.YtmkiohnabbfkcaaDoorFlo
namespace Go.Proofs.YtmkiohnabbfkcaaDoor
open Go.RowKit
open St12
set_option linter.unusedVariables false
set_option linter.unusedSimpArgs false
set_option maxHeartbeats 8000000 in
set_option maxRecDepth 100000 in
theorem rof20_any (ch de lc lp pb di bl mo : Int) (hI : (⟨ch, de, lc, lp, pb, di, bl, mo⟩ : Cfg).I) (w : World) : Calls Tryd.prog 16 #[.agg #[.int .i64 ch, .int .i64 de, .int .i64 lc, .int .i64 lp, .int .i64 pb, .int .i64 di, .int .i64 bl, .int .i64 mo]] w fun e w' => ∃ ad n cp l, e = .returned (.tuple #[.slice ad n cp, .int .i64 (Cn20.ofF ⟨ch, de, lc, lp, pb, di, bl, mo⟩).2]) ∧ FlL w' ad l ∧ l.length = n ∧ l.map FlV.f = (Cn20.ofF ⟨ch, de, lc, lp, pb, di, bl, mo⟩).1 ∧ Chg (fun _ => False) w w' := by
  obtain ⟨jf, hjf, hf0, hf1, hf2⟩ := info_parts infoFl
  have cA := chg_one w (.cells #[.int .i64 ch, .int .i64 de, .int .i64 lc, .int .i64 lp, .int .i64 pb, .int .i64 di, .int .i64 bl, .int .i64 mo] 27)
  have bA := heap_alloc_last w (.cells #[.int .i64 ch, .int .i64 de, .int .i64 lc, .int .i64 lp, .int .i64 pb, .int .i64 di, .int .i64 bl, .int .i64 mo] 27)
  obtain ⟨q0, q1, q2, q3, q4, q5, q6, q7⟩ := cells8f bA
  have HCA : Hid (Chg (fun _ => False) w (w.alloc (.cells #[.int .i64 ch, .int .i64 de, .int .i64 lc, .int .i64 lp, .int .i64 pb, .int .i64 di, .int .i64 bl, .int .i64 mo] 27))) := cA
  have HBA : Hid ((w.alloc (.cells #[.int .i64 ch, .int .i64 de, .int .i64 lc, .int .i64 lp, .int .i64 pb, .int .i64 di, .int .i64 bl, .int .i64 mo] 27)).heap[w.heap.size]? = some (.cells #[.int .i64 ch, .int .i64 de, .int .i64 lc, .int .i64 lp, .int .i64 pb, .int .i64 di, .int .i64 bl, .int .i64 mo] 27 (0, 0))) := bA
  have HLG : Hid _ := rlegal20_any ch de lc lp pb di bl mo hI (w.alloc (.cells #[.int .i64 ch, .int .i64 de, .int .i64 lc, .int .i64 lp, .int .i64 pb, .int .i64 di, .int .i64 bl, .int .i64 mo] 27))
  have HII : Hid ((⟨ch, de, lc, lp, pb, di, bl, mo⟩ : Cfg).I) := hI
  by_cases hl : Cn20.legal ⟨ch, de, lc, lp, pb, di, bl, mo⟩ = 0
  · rw [hl] at HLG
    have hr := hl
    unfold Cn20.legal at hr
    split at hr
    · rename_i hc
      simp only at hc
      obtain ⟨_, _, k1, k2, k3, k4, _⟩ := hc
      obtain ⟨bq, hdb, hbq, _⟩ := Ck17.dictB_in (n := di) (by omega) (by omega)
      have HO : Hid (Cn20.ofF ⟨ch, de, lc, lp, pb, di, bl, mo⟩ = ((if de = 0 then [] else [⟨3, [(de - 1).toNat]⟩]) ++ [⟨33, [bq]⟩], 0)) := by
        show _ = _
        unfold Cn20.ofF
        rw [if_neg (by simpa using hl)]
        simp only [hdb, Int.toNat_natCast]
      have HD : Hid (∀ w : World, Calls Tryd.prog 31 #[.int .i64 di] w fun e w' => e = .returned (.tuple #[.int .i64 (bq : Int), .int .i64 0]) ∧ w = w') := fun w => by
        have := rdb17_any di (by unfold I64; omega) w
        rw [hdb] at this
        exact this
      have hbi : (bq : Int) ≤ 40 := by omega
      have hbw : IntKind.u8.wrap (bq : Int) = (bq : Int) := wr8 (by omega) (by omega)
      clear hr hl hdb hI cA bA
      by_cases hd : 0 < de
      · have d0 : decide (0 < de) = true := decide_eq_true hd
        obtain ⟨v, hv⟩ : ∃ v : Nat, de - 1 = (v : Int) := ⟨(de - 1).toNat, by omega⟩
        have hvi : (v : Int) ≤ 255 := by omega
        have hvw : IntKind.u8.wrap (v : Int) = (v : Int) := wr8 (by omega) (by omega)
        have hvw2 : IntKind.u8.wrap (de - 1) = (v : Int) := by rw [hv]; exact hvw
        have HO2 : Hid (Cn20.ofF ⟨ch, de, lc, lp, pb, di, bl, mo⟩ = ([⟨3, [v]⟩, ⟨33, [bq]⟩], 0)) := by
          show _ = _
          rw [HO.out, if_neg (by omega), hv, Int.toNat_natCast]
          rfl
        have HV : Hid (de - 1 = (v : Int) ∧ v ≤ 255 ∧ bq ≤ 40) := ⟨hv, by omega, hbq⟩
        clear HO hv
        go_enter Tryd.func16, Tryd.ntmps16
        go_wp2_with fail
        refine Calls.mono HLG.out ?_
        rintro z w1 ⟨rfl, c1⟩
        have q1' := cell_chg q1 c1
        have q5' := cell_chg q5 c1
        have HC1 : Hid (Chg (fun _ => False) w w1) := chg_then HCA.out c1
        have HB1 : Hid (w1.heap[w.heap.size]? = some (.cells #[.int .i64 ch, .int .i64 de, .int .i64 lc, .int .i64 lp, .int .i64 pb, .int .i64 di, .int .i64 bl, .int .i64 mo] 27 (0, 0))) := blk_keep HBA.out c1 (fun f => f)
        have cB := chg_one w1 (.cells #[.int .u8 (v : Int)] 5)
        have cC := chg_one (w1.alloc (.cells #[.int .u8 (v : Int)] 5)) (.cells #[.int .u64 3, .slice (some ⟨w1.heap.size, 0, none⟩) 1 1] 36)
        have hown : ((w1.alloc (.cells #[.int .u8 (v : Int)] 5)).alloc (.cells #[.int .u64 3, .slice (some ⟨w1.heap.size, 0, none⟩) 1 1] 36)).ownsRow w1.heap.size 36 2 (.slice none 0 0) 0 (flcs []) := World.ownsRow_nil _ _ _ _
        have hsrc : From ((w1.alloc (.cells #[.int .u8 (v : Int)] 5)).alloc (.cells #[.int .u64 3, .slice (some ⟨w1.heap.size, 0, none⟩) 1 1] 36)) (some ⟨w1.heap.size + 1, 0, none⟩) 1 1 2 (flcs [⟨3, some ⟨w1.heap.size, 0, none⟩, 1, 1, [v]⟩]) := by
          have := from_fl (w1.alloc (.cells #[.int .u8 (v : Int)] 5)) ⟨3, some ⟨w1.heap.size, 0, none⟩, 1, 1, [v]⟩ 36
          rw [World.size_alloc] at this
          exact this
        have hone := flcs_cell [⟨3, some ⟨w1.heap.size, 0, none⟩, 1, 1, [v]⟩]
        have hBs : w1.heap.size ≤ ((w1.alloc (.cells #[.int .u8 (v : Int)] 5)).alloc (.cells #[.int .u64 3, .slice (some ⟨w1.heap.size, 0, none⟩) 1 1] 36)).heap.size := (chg_then cB cC).size
        have HPC : Hid (ByO ((w1.alloc (.cells #[.int .u8 (v : Int)] 5)).alloc (.cells #[.int .u64 3, .slice (some ⟨w1.heap.size, 0, none⟩) 1 1] 36)) w1.heap.size (.slice (some ⟨w1.heap.size, 0, none⟩) 1 1) [v]) := (own_lit1 w1 v).new cC
        have HCC : Hid (Chg (fun _ => False) w1 ((w1.alloc (.cells #[.int .u8 (v : Int)] 5)).alloc (.cells #[.int .u64 3, .slice (some ⟨w1.heap.size, 0, none⟩) 1 1] 36))) := chg_then cB cC
        clear c1 cB cC q0 q1 q2 q3 q4 q5 q6 q7 HCA HBA HLG
        go_wp2_with (at_builtin; refine wpList_append_moved rfl _ _ 22 rfl w1.heap.size 36 jf (.agg #[.int .u64 0, .slice none 0 0]) 2 32 Tryd.underlying22 hjf hf0 hf1 hf2 rfl (by decide) _ 0 (flcs []) rfl (some ⟨w1.heap.size + 1, 0, none⟩) 1 1 rfl (flcs [⟨3, some ⟨w1.heap.size, 0, none⟩, 1, 1, [v]⟩]) ?h1 ?h2 ?h3 ?m1 ?m2 ?m3 ?_)
        case h1 => exact hown
        case h2 => exact hsrc
        case h3 => exact hone
        case m1 => unfold maxLen; omega
        case m2 => omega
        case m3 => exact hBs
        intro v4 w4 ho4 hg4 hm4
        have HF4 : Hid (Of0 w1.heap.size w4 v4 [⟨3, some ⟨w1.heap.size, 0, none⟩, 1, 1, [v]⟩]) := (Of0.nil w1.heap.size _).push (x := ⟨3, some ⟨w1.heap.size, 0, none⟩, 1, 1, [v]⟩) ⟨HPC.out, by show (3 : Nat) < _; decide, fun x hx => by simp at hx; have := HV.out; omega, by show (1 : Nat) ≤ _; decide⟩ rfl (by simpa using ho4) hg4
        have HC4 : Hid (Chg (fun _ => False) w1 w4) := HCC.out.grown hg4 (fun g e => by simp [Value.ownBlock] at e)
        obtain ⟨a4, d4, rfl⟩ := formF ho4
        have q5 := cell_chg q5' HC4.out
        try simp only [Nat.zero_add]
        clear ho4 hg4 hm4 hown hsrc hone hBs HPC HCC q1' q5'
        go_wp2_with fail
        refine Calls.mono (HD.out _) ?_
        rintro z w5 ⟨rfl, rfl⟩
        have cB := chg_one w4 (.cells #[.int .u8 (bq : Int)] 5)
        have cC := chg_one (w4.alloc (.cells #[.int .u8 (bq : Int)] 5)) (.cells #[.int .u64 33, .slice (some ⟨w4.heap.size, 0, none⟩) 1 1] 36)
        have HF6 : Hid (Of0 w1.heap.size ((w4.alloc (.cells #[.int .u8 (bq : Int)] 5)).alloc (.cells #[.int .u64 33, .slice (some ⟨w4.heap.size, 0, none⟩) 1 1] 36)) (.slice a4 1 d4) [⟨3, some ⟨w1.heap.size, 0, none⟩, 1, 1, [v]⟩]) := HF4.out.new (chg_then cB cC)
        have hown : ((w4.alloc (.cells #[.int .u8 (bq : Int)] 5)).alloc (.cells #[.int .u64 33, .slice (some ⟨w4.heap.size, 0, none⟩) 1 1] 36)).ownsRow w1.heap.size 36 2 (.slice a4 1 d4) 1 (flcs [⟨3, some ⟨w1.heap.size, 0, none⟩, 1, 1, [v]⟩]) := HF6.out.own
        have hsrc : From ((w4.alloc (.cells #[.int .u8 (bq : Int)] 5)).alloc (.cells #[.int .u64 33, .slice (some ⟨w4.heap.size, 0, none⟩) 1 1] 36)) (some ⟨w4.heap.size + 1, 0, none⟩) 1 1 2 (flcs [⟨33, some ⟨w4.heap.size, 0, none⟩, 1, 1, [bq]⟩]) := by
          have := from_fl (w4.alloc (.cells #[.int .u8 (bq : Int)] 5)) ⟨33, some ⟨w4.heap.size, 0, none⟩, 1, 1, [bq]⟩ 36
          rw [World.size_alloc] at this
          exact this
        have hone := flcs_cell [⟨33, some ⟨w4.heap.size, 0, none⟩, 1, 1, [bq]⟩]
        have HPC : Hid (ByO ((w4.alloc (.cells #[.int .u8 (bq : Int)] 5)).alloc (.cells #[.int .u64 33, .slice (some ⟨w4.heap.size, 0, none⟩) 1 1] 36)) w1.heap.size (.slice (some ⟨w4.heap.size, 0, none⟩) 1 1) [bq]) := owns_base ((own_lit1 w4 bq).new cC) HC4.out.size
        have hBs : w1.heap.size ≤ ((w4.alloc (.cells #[.int .u8 (bq : Int)] 5)).alloc (.cells #[.int .u64 33, .slice (some ⟨w4.heap.size, 0, none⟩) 1 1] 36)).heap.size := Nat.le_trans HC4.out.size (chg_then cB cC).size
        have HCC : Hid (Chg (fun _ => False) w4 ((w4.alloc (.cells #[.int .u8 (bq : Int)] 5)).alloc (.cells #[.int .u64 33, .slice (some ⟨w4.heap.size, 0, none⟩) 1 1] 36))) := chg_then cB cC
        clear cB cC
        go_wp2_with (at_builtin; refine wpList_append_moved rfl _ _ 22 rfl w1.heap.size 36 jf (.agg #[.int .u64 0, .slice none 0 0]) 2 32 Tryd.underlying22 hjf hf0 hf1 hf2 rfl (by decide) _ 1 (flcs [⟨3, some ⟨w1.heap.size, 0, none⟩, 1, 1, [v]⟩]) rfl (some ⟨w4.heap.size + 1, 0, none⟩) 1 1 rfl (flcs [⟨33, some ⟨w4.heap.size, 0, none⟩, 1, 1, [bq]⟩]) ?k1 ?k2 ?k3 ?n1 ?n2 ?n3 ?_)
        case k1 => exact hown
        case k2 => exact hsrc
        case k3 => exact hone
        case n1 => unfold maxLen; omega
        case n2 => omega
        case n3 => exact hBs
        intro v8 w8 ho8 hg8 hm8
        have HF8 : Hid (Of0 w1.heap.size w8 v8 ([⟨3, some ⟨w1.heap.size, 0, none⟩, 1, 1, [v]⟩] ++ [⟨33, some ⟨w4.heap.size, 0, none⟩, 1, 1, [bq]⟩])) := HF6.out.push (x := ⟨33, some ⟨w4.heap.size, 0, none⟩, 1, 1, [bq]⟩) ⟨HPC.out, by show (33 : Nat) < _; decide, fun x hx => by simp at hx; have := HV.out; omega, by show (1 : Nat) ≤ _; decide⟩ rfl ho8 hg8
        have HC8 : Hid (Chg (fun _ => False) w1 w8) := (chg_then HC4.out HCC.out).trans ((Chg.refl (fun g => (Value.slice none 0 0).ownBlock = some g ∨ (.slice a4 1 d4 : Value).ownBlock = some g) _).grown hg8 (fun g e => .inl (.inr e))) (fun g e => by
          rcases e with e | e
          · simp [Value.ownBlock] at e
          · exact .inr ((HF6.out.own.lt g e).1))
        obtain ⟨a8, d8, rfl⟩ := formF ho8
        clear ho8 hg8 hm8 hown hsrc hone hBs HPC HF6
        go_wp2
        go_ret2
        exact ⟨a8, _, d8, [⟨3, some ⟨w1.heap.size, 0, none⟩, 1, 1, [v]⟩] ++ [⟨33, some ⟨w4.heap.size, 0, none⟩, 1, 1, [bq]⟩], by rw [HO2.out]; rfl, HF8.out.L, rfl, by rw [HO2.out]; rfl, chg_then HC1.out HC8.out⟩
      · obtain rfl : de = 0 := by omega
        have d0 : decide ((0 : Int) < 0) = false := by decide
        have HO2 : Hid (Cn20.ofF ⟨ch, 0, lc, lp, pb, di, bl, mo⟩ = ([⟨33, [bq]⟩], 0)) := by
          show _ = _
          rw [HO.out, if_pos rfl]
          rfl
        have HV : Hid (bq ≤ 40) := hbq
        clear HO
        go_enter Tryd.func16, Tryd.ntmps16
        go_wp2_with fail
        refine Calls.mono HLG.out ?_
        rintro z w1 ⟨rfl, c1⟩
        have q1' := cell_chg q1 c1
        have q5' := cell_chg q5 c1
        have HC1 : Hid (Chg (fun _ => False) w w1) := chg_then HCA.out c1
        clear c1 q0 q1 q2 q3 q4 q5 q6 q7 HCA HBA HLG
        go_wp2_with fail
        refine Calls.mono (HD.out _) ?_
        rintro z w5 ⟨rfl, rfl⟩
        have cB := chg_one w1 (.cells #[.int .u8 (bq : Int)] 5)
        have cC := chg_one (w1.alloc (.cells #[.int .u8 (bq : Int)] 5)) (.cells #[.int .u64 33, .slice (some ⟨w1.heap.size, 0, none⟩) 1 1] 36)
        have HF6 : Hid (Of0 w1.heap.size ((w1.alloc (.cells #[.int .u8 (bq : Int)] 5)).alloc (.cells #[.int .u64 33, .slice (some ⟨w1.heap.size, 0, none⟩) 1 1] 36)) (.slice none 0 0) ([] : List FlV)) := (Of0.nil w1.heap.size w1).new (chg_then cB cC)
        have hown : ((w1.alloc (.cells #[.int .u8 (bq : Int)] 5)).alloc (.cells #[.int .u64 33, .slice (some ⟨w1.heap.size, 0, none⟩) 1 1] 36)).ownsRow w1.heap.size 36 2 (.slice none 0 0) 0 (flcs ([] : List FlV)) := HF6.out.own
        have hsrc : From ((w1.alloc (.cells #[.int .u8 (bq : Int)] 5)).alloc (.cells #[.int .u64 33, .slice (some ⟨w1.heap.size, 0, none⟩) 1 1] 36)) (some ⟨w1.heap.size + 1, 0, none⟩) 1 1 2 (flcs [⟨33, some ⟨w1.heap.size, 0, none⟩, 1, 1, [bq]⟩]) := by
          have := from_fl (w1.alloc (.cells #[.int .u8 (bq : Int)] 5)) ⟨33, some ⟨w1.heap.size, 0, none⟩, 1, 1, [bq]⟩ 36
          rw [World.size_alloc] at this
          exact this
        have hone := flcs_cell [⟨33, some ⟨w1.heap.size, 0, none⟩, 1, 1, [bq]⟩]
        have HPC : Hid (ByO ((w1.alloc (.cells #[.int .u8 (bq : Int)] 5)).alloc (.cells #[.int .u64 33, .slice (some ⟨w1.heap.size, 0, none⟩) 1 1] 36)) w1.heap.size (.slice (some ⟨w1.heap.size, 0, none⟩) 1 1) [bq]) := owns_base ((own_lit1 w1 bq).new cC) (Nat.le_refl _)
        have hBs : w1.heap.size ≤ ((w1.alloc (.cells #[.int .u8 (bq : Int)] 5)).alloc (.cells #[.int .u64 33, .slice (some ⟨w1.heap.size, 0, none⟩) 1 1] 36)).heap.size := Nat.le_trans (Nat.le_refl _) (chg_then cB cC).size
        have HCC : Hid (Chg (fun _ => False) w1 ((w1.alloc (.cells #[.int .u8 (bq : Int)] 5)).alloc (.cells #[.int .u64 33, .slice (some ⟨w1.heap.size, 0, none⟩) 1 1] 36))) := chg_then cB cC
        clear cB cC
        go_wp2_with (at_builtin; refine wpList_append_moved rfl _ _ 22 rfl w1.heap.size 36 jf (.agg #[.int .u64 0, .slice none 0 0]) 2 32 Tryd.underlying22 hjf hf0 hf1 hf2 rfl (by decide) _ 0 (flcs ([] : List FlV)) rfl (some ⟨w1.heap.size + 1, 0, none⟩) 1 1 rfl (flcs [⟨33, some ⟨w1.heap.size, 0, none⟩, 1, 1, [bq]⟩]) ?k1 ?k2 ?k3 ?n1 ?n2 ?n3 ?_)
        case k1 => exact hown
        case k2 => exact hsrc
        case k3 => exact hone
        case n1 => unfold maxLen; omega
        case n2 => omega
        case n3 => exact hBs
        intro v8 w8 ho8 hg8 hm8
        have HF8 : Hid (Of0 w1.heap.size w8 v8 (([] : List FlV) ++ [⟨33, some ⟨w1.heap.size, 0, none⟩, 1, 1, [bq]⟩])) := HF6.out.push (x := ⟨33, some ⟨w1.heap.size, 0, none⟩, 1, 1, [bq]⟩) ⟨HPC.out, by show (33 : Nat) < _; decide, fun x hx => by simp at hx; have := HV.out; omega, by show (1 : Nat) ≤ _; decide⟩ rfl ho8 hg8
        have HC8 : Hid (Chg (fun _ => False) w1 w8) := HCC.out.trans ((Chg.refl (fun g => (Value.slice none 0 0).ownBlock = some g ∨ (.slice none 0 0 : Value).ownBlock = some g) _).grown hg8 (fun g e => .inl (.inr e))) (fun g e => by
          rcases e with e | e
          · simp [Value.ownBlock] at e
          · exact .inr ((HF6.out.own.lt g e).1))
        obtain ⟨a8, d8, rfl⟩ := formF ho8
        clear ho8 hg8 hm8 hown hsrc hone hBs HPC HF6
        go_wp2
        go_ret2
        exact ⟨a8, _, d8, ([] : List FlV) ++ [⟨33, some ⟨w1.heap.size, 0, none⟩, 1, 1, [bq]⟩], by rw [HO2.out]; rfl, HF8.out.L, rfl, by rw [HO2.out]; rfl, chg_then HC1.out HC8.out⟩
    · exact absurd hr (by decide)
  · have HO : Hid (Cn20.ofF ⟨ch, de, lc, lp, pb, di, bl, mo⟩ = ([], 6)) := by
      show _ = _
      unfold Cn20.ofF
      rw [if_pos (by exact hl)]
    have h6 : Cn20.legal ⟨ch, de, lc, lp, pb, di, bl, mo⟩ = 6 := by
      unfold Cn20.legal at hl ⊢
      split at hl
      · exact absurd rfl hl
      · rename_i h; rw [if_neg h]
    rw [h6] at HLG
    clear hI cA bA hl h6
    go_enter Tryd.func16, Tryd.ntmps16
    go_wp2_with fail
    refine Calls.mono HLG.out ?_
    rintro z w1 ⟨rfl, c1⟩
    have HC1 : Hid (Chg (fun _ => False) w w1) := chg_then HCA.out c1
    clear c1
    go_wp2
    go_ret2
    exact ⟨none, 0, 0, [], by rw [HO.out]; rfl, FlL.nil _ _, rfl, by rw [HO.out]; rfl, HC1.out⟩
end Go.Proofs.YtmkiohnabbfkcaaDoor
