/- The walk through ShaSums; of no statement by itself. -/
import Derived.Test.YtnedllhlmddmoabDoorSumsA
import Derived.Test.YtnedllhlmddmoabDoorEq
import Derived.Deep.RegionLaw
namespace Go.Proofs.YtnedllhlmddmoabDoor
open Go.RowKit
set_option linter.unusedVariables false

theorem slice_hR (w : World) (y : Option Addr) (n c q : Nat) (hq : q ≤ c) : (Instr.slice 23 (.slice y n c) none (some (.int .i64 (q : Int))) none).run Tryd.prog w = .ok (.slice y q c) w := by
  have h1 := run_slice_h (P := Tryd.prog) w 23 y n c Tryd.underlying23 .i64 (q : Int) (by omega) (by omega)
  have h3 : (sizeOf (Tryd.prog.elem 23)).run Tryd.prog w = .ok 1 w := one_size (by kernel_rfl) w
  rw [h1, h3]
  simp only [Result.andThen_ok, sliced, Int.toNat_natCast, Nat.mul_one, Nat.sub_zero]
  congr 2
  split
  · rfl
  · cases y with
    | none => rfl
    | some x => simp [Addr.add]
theorem slice_hRb (w : World) (y : Option Addr) (n c q : Nat) (hq : q ≤ c) : (Instr.sliceAt 23 (.slice y n c) none (some (.int .i64 (q : Int))) none).run Tryd.prog w = .ok (.slice y q c) w :=
  (run_sliceAt_slice (P := Tryd.prog) w 23 _ _ _ _ Tryd.underlying23).trans (slice_hR w y n c q hq)

/-- The two paddings tell the same. -/
theorem pads_same (n : Int) (h1 : -9223372036854775808 ≤ n) (h2 : n < 9223372036854775808) : ∃ PL PX, Byt PX ∧
    (∀ w, Calls Tryd.prog 8 #[.int .i64 n] w fun e w' => ∃ ad c, e = .returned (.slice ad PL c) ∧ Row8 w' ad PL c (up PX) ∧ Chg (fun _ => False) w w') ∧
    (∀ w, Calls Tryd.prog 9 #[.int .i64 n] w fun e w' => ∃ ad c, e = .returned (.slice ad PL c) ∧ Row8 w' ad PL c (up PX) ∧ Chg (fun _ => False) w w') := by
  by_cases hn : n < 0
  · refine ⟨0, [], Byt.nil, fun w => (pad_neg n w hn).mono ?_, fun w => (refpad_neg n w hn).mono ?_⟩
    · rintro e w' ⟨rfl, rfl⟩
      exact ⟨none, 0, rfl, ⟨rfl, .inl ⟨rfl, rfl, rfl⟩⟩, Chg.refl _ _⟩
    · rintro e w' ⟨rfl, rfl⟩
      exact ⟨none, 0, rfl, ⟨rfl, .inl ⟨rfl, rfl, rfl⟩⟩, Chg.refl _ _⟩
  · obtain ⟨m, rfl⟩ : ∃ m : Nat, n = m := ⟨n.toNat, by omega⟩
    refine ⟨Sha.padlen m, Sha.pad m, Sha.pad_byt m, fun w => (pad_any m w (by omega)).mono ?_, fun w => refpad_any m w (by omega)⟩
    rintro e w' ⟨g, rfl, _, hb, c⟩
    exact ⟨_, _, rfl, row8_blk hb _ _ (Sha.pad_len m), c⟩

theorem cell_at {w w' : World} {S : Nat → Prop} {x : Addr} {v : Value} (h : w.cell? x = some v) (hc : Chg S w w') (hS : ¬ S x.block) : w'.cell? x = some v := by
  rw [World.cell?_of_block (w := w) (hc.block _ (World.block_lt_of_cell? w _ h) hS)]
  exact h

theorem over_sum : ∀ ts : List Lt, ((ts.map fun t => over t.ns).flatten).length = ((ts.map Lt.ns).flatten).length
  | [] => rfl
  | t :: ts => by
    have := over_sum ts
    simp only [List.map_cons, List.flatten_cons, List.length_append, over_len, this]

theorem ov_map (ts : List Lt) : (ts.map Lt.ov).map Lt.ns = ts.map fun t => over t.ns := by rw [List.map_map]; rfl

set_option maxHeartbeats 40000000 in
set_option maxRecDepth 100000 in
theorem sums_walk (a : Option Addr) (N c : Nat) (nss : List (List Nat)) (nn : Int) (w0 : World) (T0 : Tab w0) (hA : ArgS w0 a N nss) (hN : N ≤ 1048576) (hF : nss.flatten.length ≤ 1048576) (hn1 : -9223372036854775808 ≤ nn) (hn2 : nn < 9223372036854775808) :
    Calls Tryd.prog 3 #[.slice a N c, .int .i64 nn] w0 fun e w' => e = .returned (.bool true) ∧ Chg (fun _ => False) w0 w' := by
  obtain ⟨j0, hj, hy0, hy1, hy2⟩ := info_parts infoB
  have HA : Hid (ArgS w0 a N nss) := hA
  have HT : Hid (Tab w0) := T0
  have HFl : Hid (nss.flatten.length ≤ 1048576) := hF
  have HPads : Hid _ := pads_same nn hn1 hn2
  clear hA T0 hF
  go_enter Tryd.func3, Tryd.ntmps3
  go_wp2_with fail
  go_loopw [5, 6, 7, 20] (fun lv fv s i wr => ∃ (k : Nat) (ts : List Lt), k ≤ N ∧ i = .int .i64 k ∧ s = .string (str (nss.take k).flatten) ∧ Hid (Keeps w0 wr nss k lv fv ts)) (fun _ _ _ i _ => N - (intOf i).toNat)
  case atStart => exact ⟨0, [], by omega, rfl, rfl, Keeps.start w0 nss⟩
  case round =>
    obtain ⟨k, ts, hk, rfl, rfl, HK⟩ := hrel
    by_cases hlt : k < N
    · have kn : k < nss.length := by rw [HA.out.ln]; exact hlt
      have A1 := HA.out.keep HK.out.chg
      obtain ⟨x, rfl, hcell⟩ := A1.at_ k kn
      have hbyt := A1.byt nss[k] (List.getElem_mem _)
      have hfl := flat_len kn HFl.out
      obtain ⟨la, lc, rfl, -⟩ := own_sl HK.out.l
      obtain ⟨fa, fc, rfl, -⟩ := own_sl HK.out.f
      obtain ⟨ns, hns⟩ : ∃ ns, nss[k] = ns := ⟨_, rfl⟩
      have HNs : Hid (nss[k] = ns) := hns
      have HNx : Hid ((nss.take (k + 1)).flatten = (nss.take k).flatten ++ ns) := by show _ = _; rw [flat_take nss k kn, hns]
      rw [hns] at hcell hfl hbyt
      obtain ⟨A, HAf⟩ : ∃ A, Hid ((nss.take k).flatten = A) := ⟨_, rfl⟩
      rw [HAf.out] at hfl HNx
      simp only [HAf.out]
      have hsadd : str A ++ str ns = str (A ++ ns) := str_append A ns
      have hcond : ¬ (9223372036854775807 < (str A).size + (str ns).size) := by rw [str_size, str_size]; omega
      obtain ⟨m, hm⟩ : ∃ m, ns.length = m := ⟨_, rfl⟩
      have HM : Hid (ns.length = m) := hm
      rw [hm] at hfl
      have hml : m ≤ 1048576 := by omega
      obtain ⟨cap0, w1, hconv, hrow1, hle1, c1⟩ := conv_str wr ns hbyt
      rw [hm] at hconv hrow1 hle1
      have HRow1 : Hid (Row8 w1 (some ⟨wr.heap.size, 0, none⟩) m cap0 (up ns)) := hrow1
      have HS1 : Hid (str A ++ str ns = str (A ++ ns)) := hsadd
      obtain ⟨sC, HSC⟩ : ∃ sC, Hid (str (A ++ ns) = sC) := ⟨_, rfl⟩
      rw [HSC.out] at hsadd HS1
      generalize str A = sA at *
      generalize str ns = sB at *
      clear A1 hns hm hrow1
      go_wp2_with fail
      refine (lent_any (some ⟨wr.heap.size, 0, none⟩) m cap0 ns w1 HRow1.out (by omega)).mono ?_
      rintro e w2 ⟨g, cap, cur, rfl, hroom, hblk, hgs, hglt, c2⟩
      have K1 := (HK.out.new c1).new c2
      have hB : Blk w2 g (ns ++ [165]) := blk_of_row hroom.row hblk
      have hgs0 : wr.heap.size ≤ g := Nat.le_trans c1.size hgs
      have hL1 : Lents w2 w0.heap.size (ts ++ [⟨g, cap, ns⟩]) := K1.lents.snoc (t := ⟨g, cap, ns⟩) ⟨hB, by show ns.length + 1 ≤ cap; rw [HM.out]; exact hroom.fit, Nat.le_trans HK.out.chg.size hgs0, hbyt⟩ (fun s hs e => by
        have := (HK.out.lents.each s hs).1.lt
        have e2 : s.g = g := e
        omega)
      have ca := chg_one w2 (.cells #[.slice (some ⟨g, 0, none⟩) m cap] 24)
      have K2 := K1.new ca
      have hL2 := hL1.new ca
      have hs2 := K2.chg.size
      clear K1 hL1 hroom hblk hgs hB HRow1 hcell hconv HK c1 c2
      go_wp2_with (at_builtin; refine wpList_append_moved rfl _ _ 23 rfl w0.heap.size 24 j0 (.slice none 0 0) 1 24 Tryd.underlying23 hj hy0 hy1 hy2 rfl (by decide) _ k (ts.map Lt.pc) rfl (some ⟨w2.heap.size, 0, none⟩) 1 1 rfl [.slice (some ⟨g, 0, none⟩) m cap] K2.l (from_v w2 _ 24) (fun u hu => by simp at hu; subst hu; rfl) (by unfold maxLen; omega) (by omega) hs2 ?_)
      intro v3 w3 ho3 hg3 hm3
      have hh3 : Half w0 w3 nss k v3 (.slice fa k fc) ts ⟨g, cap, ns⟩ := K2.half hL2 (by show w3.ownsRow _ _ _ _ _ (_ ++ [Value.slice _ ns.length _]); rw [HM.out]; exact ho3) hg3 hm3
      obtain ⟨la2, lc2, rfl, -⟩ := own_sl ho3
      have cb := chg_one w3 (.cells #[.slice (some ⟨g, 0, none⟩) (m + 1) cap] 24)
      have hh4 := hh3.new cb
      have hs3 := hh4.chg.size
      clear K2 hL2 hg3 hm3 ho3 hh3
      go_wp2_with (at_builtin; refine wpList_append_moved rfl _ _ 23 rfl w0.heap.size 24 j0 (.slice none 0 0) 1 24 Tryd.underlying23 hj hy0 hy1 hy2 rfl (by decide) _ k (ts.map Lt.fl) rfl (some ⟨w3.heap.size, 0, none⟩) 1 1 rfl [.slice (some ⟨g, 0, none⟩) (m + 1) cap] hh4.f (from_v w3 _ 24) (fun u hu => by simp at hu; subst hu; rfl) (by unfold maxLen; omega) (by omega) hs3 ?_)
      intro v4 w4 ho4 hg4 hm4
      have K5 : Hid (Keeps w0 w4 nss (k + 1) (.slice la2 (k + 1) lc2) v4 (ts ++ [⟨g, cap, ns⟩])) := hh4.full kn HNs.out.symm (by show w4.ownsRow _ _ _ _ _ (_ ++ [Value.slice _ (ns.length + 1) _]); rw [HM.out]; exact ho4) hg4 hm4
      obtain ⟨fa2, fc2, rfl, -⟩ := own_sl ho4
      clear hh4 hg4 hm4 ho4
      go_wp2
      go_roundw
      case rel => exact ⟨k + 1, _, by omega, by go_num, by rw [HNx.out, HSC.out], K5⟩
      case measure => simp [intOf]; omega
    · obtain rfl : k = N := by omega
      obtain ⟨la, lc, rfl, -⟩ := own_sl HK.out.l
      obtain ⟨fa, fc, rfl, -⟩ := own_sl HK.out.f
      have htk : nss.take k = nss := List.take_of_length_le (by rw [HA.out.ln]; exact Nat.le_refl _)
      have HTs : Hid (ts.map Lt.ns = nss) := HK.out.tk.trans htk
      have HTl : Hid (ts.length = k) := HK.out.len
      rw [htk]
      clear htk
      have hn : k ≤ 1048576 := hN
      have v0 := conv_const wr [98, 101, 104, 105, 110, 100] 6 6 wr.heap.size rfl
      have rb0 : Row8 _ _ 6 6 (up behind) := row8_new wr [98, 101, 104, 105, 110, 100] 5 (6, 7) 6 6 rfl
      have HGm : Hid (∀ t ∈ ts, t.g < wr.heap.size) := fun t ht => (HK.out.lents.each t ht).1.lt
      have hlb : ∀ g, (Value.slice la k lc).ownBlock = some g → g < wr.heap.size := fun g e => (HK.out.l.lt g e).2
      have c1 := chg_one wr (.cells (List.map (Value.int .u8) [98, 101, 104, 105, 110, 100]).toArray 5 (6, 7))
      simp only [List.map_cons, List.map_nil, List.length_cons, List.length_nil, Nat.reduceAdd] at v0 rb0 c1
      generalize hw1 : wr.alloc (.cells #[.int .u8 98, .int .u8 101, .int .u8 104, .int .u8 105, .int .u8 110, .int .u8 100] 5 (6, 7)) = w1 at *
      have c2 := chg_one w1 (.cells #[.slice (some ⟨wr.heap.size, 0, none⟩) 6 6] 24)
      have K2 := (HK.out.new c1).new c2
      have rb1 := row8_chg rb0 c2
      have hs2 := K2.chg.size
      clear rb0 c1 c2 HK hw1
      go_wp2_with (at_builtin; refine wpList_append_moved rfl _ _ 23 rfl w0.heap.size 24 j0 (.slice none 0 0) 1 24 Tryd.underlying23 hj hy0 hy1 hy2 rfl (by decide) _ k (ts.map Lt.pc) rfl (some ⟨w1.heap.size, 0, none⟩) 1 1 rfl [.slice (some ⟨wr.heap.size, 0, none⟩) 6 6] K2.l (from_v w1 _ 24) (fun u hu => by simp at hu; subst hu; rfl) (by unfold maxLen; omega) (by omega) hs2 ?_)
      intro v2 w4 ho2 hg2 hm2
      have hc : Chg (fun j => (Value.slice la k lc).ownBlock = some j) (w1.alloc (.cells #[.slice (some ⟨wr.heap.size, 0, none⟩) 6 6] 24)) w4 := (Chg.refl _ _).grown hg2 (fun j e => .inl e)
      have hf4 := ownsRow_keep K2.f hc (fun g e e' => K2.ne g e' e)
      have HL4 : Hid (Lents w4 w0.heap.size ts) := K2.lents.keep hc (fun s hs e => own_not K2.l (K2.lents.each s hs).1 e)
      have C4 : Chg (fun _ => False) w0 w4 := K2.chg.grown hg2 (fun j e => .inr ((K2.l.lt j e).1))
      have HRB : Hid (Row8 w4 (some ⟨wr.heap.size, 0, none⟩) 6 6 (up behind)) := row8_keep rb1 hc (fun x e1 e2 => by
        cases e1
        have := hlb _ e2
        simp at this)
      obtain ⟨gl, lc4, rfl, hlc, -⟩ := own_sm ho2 (by omega)
      have hlk : k ≤ lc4 := by omega
      have HGl : Hid (∀ t ∈ ts, t.g ≠ gl) := fun t ht e => own_not ho2 (HL4.out.each t ht).1 (by rw [e]; rfl)
      have hlm : (ts.map Lt.pc).length = k := by rw [List.length_map]; exact HTl.out
      have HCB : Hid (w4.cell? ⟨gl, k, none⟩ = some (.slice (some ⟨wr.heap.size, 0, none⟩) 6 6)) := by
        show _ = _
        have := ho2.cells (g := gl) rfl k (.slice (some ⟨wr.heap.size, 0, none⟩) 6 6) (by rw [List.getElem?_append_right (by omega), hlm, Nat.sub_self]; rfl)
        rw [addk, Nat.zero_add] at this
        exact this
      have HCL : Hid (∀ j (hj : j < ts.length), w4.cell? ((⟨gl, 0, none⟩ : Addr).add j) = some ts[j].pc) := fun j hj => ho2.cells (g := gl) rfl j ts[j].pc (by rw [List.getElem?_append_left (by simpa using hj), List.getElem?_map, List.getElem?_eq_getElem hj]; rfl)
      have HCF : Hid (∀ j (hj : j < ts.length), ∃ y, fa = some y ∧ w4.cell? (y.add j) = some ts[j].fl) := fun j hj => by
        obtain ⟨gf, cf, e, _, _⟩ := own_sm hf4 (by have := HTl.out; omega)
        simp only [Value.slice.injEq, true_and] at e
        obtain ⟨rfl, rfl⟩ := e
        exact ⟨_, rfl, hf4.cells (g := gf) rfl j ts[j].fl (by rw [List.getElem?_map, List.getElem?_eq_getElem hj]; rfl)⟩
      have HP : Hid (Pieces w4 ⟨gl, 0, none⟩ nss) := by
        show Pieces _ _ _
        rw [← HTs.out]
        exact HL4.out.pieces _ HCL.out
      have hbf : Byt nss.flatten := fun y hy => by
        obtain ⟨l, hl, hy⟩ := List.mem_flatten.1 hy
        exact HA.out.byt l hl y hy
      obtain ⟨FL, HF⟩ : ∃ FL, Hid (nss.flatten = FL) := ⟨_, rfl⟩
      rw [HF.out] at hbf
      simp only [HF.out]
      obtain ⟨n, HNL⟩ : ∃ n, Hid (FL.length = n) := ⟨_, rfl⟩
      have hn9 : n ≤ 1048576 := by have := HFl.out; rw [HF.out, HNL.out] at this; exact this
      obtain ⟨D, HD⟩ : ∃ D, Hid (Sha.sum Sha.I 0 FL = D) := ⟨_, rfl⟩
      have l_D : D.length = 32 := by rw [← HD.out]; exact Sha.told_len _
      obtain ⟨PL, PX, _, hP1, hP2⟩ := HPads.out
      have HP1 : Hid _ := hP1
      have HP2 : Hid _ := hP2
      obtain ⟨gm, HGM⟩ : ∃ gm, Hid (wr.heap.size = gm) := ⟨_, rfl⟩
      rw [HGM.out] at HGm HRB HCB
      clear hP1 hP2 HPads hf4 hg2 hm2 hc K2 rb1 hlb v0 hlm hs2 ho2 hlc hk hlt hn
      go_wp2_with fail
      refine wp_region_free (mk := fun u => #[_, _, _, _, _, _, _, _, _, _, _, _, _, _, _, _, _, _, _, _, _, _, _, _, _, _, _, _, _, _, _, _, _, _, _, _, _, _, _, _, _, _, _, _, _, _, _, _, u 48, u 49, u 50, u 51, u 52, u 53, u 54, u 55, u 56, u 57, u 58, u 59, u 60, u 61, u 62, u 63, u 64, u 65, _, _, _, _, _, _, _, _, _, _, _, _, _, _, _, _, _, _, _, _, _, _, _, _, _, _, _, _, _, _, _, _, _, _, _, _, _, _, _, _, _, _, _, _, _, _, _, _, _, _, _, _, _, _, _, _, _, _, _, _, _, _, _, _, _, _, _, _, _, _, _, _, _, _, _, _, _, _, _, _, _, _]) (F := fun slot vv ww => (look [(48, .val (.slice (some ⟨gl, 0, none⟩) (k + 1) lc4)), (49, .val (.slice a k c)), (50, .val (.int .i64 (k : Nat))), (51, .val (.slice (some ⟨gl, 0, none⟩) k lc4)), (52, .val (.agg (byts D).toArray)), (53, .val (.string (str FL))), (54, .row n FL), (55, .val (.agg (byts D).toArray)), (56, .val (.bool false)), (57, .val (.bool false)), (58, .val (.int .i64 nn)), (59, .row PL PX), (60, .val (.string (strOfNums (up PX)))), (61, .val (.int .i64 nn)), (62, .row PL PX), (63, .val (.string (strOfNums (up PX)))), (64, .val (.bool false)), (65, .val (.bool false))] slot).holds vv ww) (fun _ => undef) rfl (by kernel_rfl) (by kernel_rfl) ?_ (fun _ v w w' hc h => Fact.stays _ v w w' hc h) ?_ ?_
      · repeat (refine ⟨⟨_, rfl, fun _ _ => rfl⟩, ?_⟩)
        exact trivial
      · refine ⟨?_, ?_, ?_, ?_, ?_, ?_, ?_, ?_, ?_, ?_, ?_, ?_, ?_, ?_, ?_, ?_, ?_, ?_, trivial⟩
        · intro u w hc hd K hK -- 48
          clear hd
          go_simp
          exact hK.out (.slice (some ⟨gl, 0, none⟩) (k + 1) lc4) w (Chg.refl _ _) rfl
        · intro u w hc hd K hK -- 49
          clear hd
          go_simp
          exact hK.out (.slice a k c) w (Chg.refl _ _) rfl
        · intro u w hc hd K hK -- 50
          have h49 : (Fact.val (.slice a k c)).holds (u 49) w := hd.get 1 (by kernel_rfl)
          simp only [Fact.holds] at h49
          clear hd
          simp only [h49] at hK
          go_simp
          exact hK.out (.int .i64 (k : Nat)) w (Chg.refl _ _) rfl
        · intro u w hc hd K hK -- 51
          have h48 : (Fact.val (.slice (some ⟨gl, 0, none⟩) (k + 1) lc4)).holds (u 48) w := hd.get 0 (by kernel_rfl)
          simp only [Fact.holds] at h48
          have h50 : (Fact.val (.int .i64 (k : Nat))).holds (u 50) w := hd.get 2 (by kernel_rfl)
          simp only [Fact.holds] at h50
          clear hd
          simp only [h48, h50] at hK
          have hsl := slice_hR w (some ⟨gl, 0, none⟩) (k + 1) lc4 k hlk
          have hsl2 := slice_hRb w (some ⟨gl, 0, none⟩) (k + 1) lc4 k hlk
          go_simp
          exact hK.out _ w (Chg.refl _ _) rfl
        · intro u w hc hd K hK -- 52
          have h51 : (Fact.val (.slice (some ⟨gl, 0, none⟩) k lc4)).holds (u 51) w := hd.get 3 (by kernel_rfl)
          simp only [Fact.holds] at h51
          clear hd
          simp only [h51] at hK
          go_simp
          go_at_call 6
          refine (sum_some ⟨gl, 0, none⟩ k lc4 nss w (HT.out.new (chg_then C4 hc)) (HP.out.keep hc) HA.out.ln (by omega) (by have := HFl.out; omega)).mono ?_
          rintro e w1 ⟨rfl, cc_⟩
          rw [HF.out, HD.out]
          exact hK.out _ _ cc_ rfl
        · intro u w hc hd K hK -- 53
          clear hd
          go_simp
          exact hK.out (.string (str FL)) w (Chg.refl _ _) rfl
        · intro u w hc hd K hK -- 54
          have h53 : (Fact.val (.string (str FL))).holds (u 53) w := hd.get 5 (by kernel_rfl)
          simp only [Fact.holds] at h53
          clear hd
          simp only [h53] at hK
          obtain ⟨cap0, wx, hconv, hrowx, hlex, cx⟩ := conv_str w FL hbf
          rw [HNL.out] at hconv hrowx
          go_simp
          exact hK.out _ _ cx ⟨_, _, rfl, hrowx⟩
        · intro u w hc hd K hK -- 55
          have h54 : (Fact.row n FL).holds (u 54) w := hd.get 6 (by kernel_rfl)
          obtain ⟨q54, k54, h54, r54⟩ := h54
          clear hd
          simp only [h54] at hK
          go_simp
          go_at_call 7
          refine (refsum_any q54 _ k54 FL w r54 hbf (by omega)).mono ?_
          rintro e w1 ⟨rfl, cc_⟩
          rw [HD.out]
          exact hK.out _ _ cc_ rfl
        · intro u w hc hd K hK -- 56
          have h52 : (Fact.val (.agg (byts D).toArray)).holds (u 52) w := hd.get 4 (by kernel_rfl)
          simp only [Fact.holds] at h52
          have h55 : (Fact.val (.agg (byts D).toArray)).holds (u 55) w := hd.get 7 (by kernel_rfl)
          simp only [Fact.holds] at h55
          clear hd
          simp only [h52, h55] at hK
          have hq := same32 w D l_D
          go_simp
          exact hK.out _ w (Chg.refl _ _) rfl
        · intro u w hc hd K hK -- 57
          have h56 : (Fact.val (.bool false)).holds (u 56) w := hd.get 8 (by kernel_rfl)
          simp only [Fact.holds] at h56
          clear hd
          simp only [h56] at hK
          go_simp
          exact hK.out (.bool false) w (Chg.refl _ _) rfl
        · intro u w hc hd K hK -- 58
          have h57 : (Fact.val (.bool false)).holds (u 57) w := hd.get 9 (by kernel_rfl)
          simp only [Fact.holds] at h57
          clear hd
          simp only [h57] at hK
          go_simp
          exact hK.out (.int .i64 nn) w (Chg.refl _ _) rfl
        · intro u w hc hd K hK -- 59
          have h58 : (Fact.val (.int .i64 nn)).holds (u 58) w := hd.get 10 (by kernel_rfl)
          simp only [Fact.holds] at h58
          have h57 : (Fact.val (.bool false)).holds (u 57) w := hd.get 9 (by kernel_rfl)
          simp only [Fact.holds] at h57
          clear hd
          simp only [h57, h58] at hK
          go_simp
          go_at_call 8
          refine (HP1.out w).mono ?_
          rintro e w1 ⟨pa_, pc_, rfl, hpr_, cc_⟩
          exact hK.out _ _ cc_ ⟨_, _, rfl, hpr_⟩
        · intro u w hc hd K hK -- 60
          have h59 : (Fact.row PL PX).holds (u 59) w := hd.get 11 (by kernel_rfl)
          obtain ⟨q59, k59, h59, r59⟩ := h59
          have h57 : (Fact.val (.bool false)).holds (u 57) w := hd.get 9 (by kernel_rfl)
          simp only [Fact.holds] at h57
          clear hd
          simp only [h57, h59] at hK
          have hcv := conv8_here r59
          go_simp
          exact hK.out _ w (Chg.refl _ _) rfl
        · intro u w hc hd K hK -- 61
          have h57 : (Fact.val (.bool false)).holds (u 57) w := hd.get 9 (by kernel_rfl)
          simp only [Fact.holds] at h57
          clear hd
          simp only [h57] at hK
          go_simp
          exact hK.out (.int .i64 nn) w (Chg.refl _ _) rfl
        · intro u w hc hd K hK -- 62
          have h61 : (Fact.val (.int .i64 nn)).holds (u 61) w := hd.get 13 (by kernel_rfl)
          simp only [Fact.holds] at h61
          have h57 : (Fact.val (.bool false)).holds (u 57) w := hd.get 9 (by kernel_rfl)
          simp only [Fact.holds] at h57
          clear hd
          simp only [h57, h61] at hK
          go_simp
          go_at_call 9
          refine (HP2.out w).mono ?_
          rintro e w1 ⟨pa_, pc_, rfl, hpr_, cc_⟩
          exact hK.out _ _ cc_ ⟨_, _, rfl, hpr_⟩
        · intro u w hc hd K hK -- 63
          have h62 : (Fact.row PL PX).holds (u 62) w := hd.get 14 (by kernel_rfl)
          obtain ⟨q62, k62, h62, r62⟩ := h62
          have h57 : (Fact.val (.bool false)).holds (u 57) w := hd.get 9 (by kernel_rfl)
          simp only [Fact.holds] at h57
          clear hd
          simp only [h57, h62] at hK
          have hcv := conv8_here r62
          go_simp
          exact hK.out _ w (Chg.refl _ _) rfl
        · intro u w hc hd K hK -- 64
          have h60 : (Fact.val (.string (strOfNums (up PX)))).holds (u 60) w := hd.get 12 (by kernel_rfl)
          simp only [Fact.holds] at h60
          have h63 : (Fact.val (.string (strOfNums (up PX)))).holds (u 63) w := hd.get 15 (by kernel_rfl)
          simp only [Fact.holds] at h63
          have h57 : (Fact.val (.bool false)).holds (u 57) w := hd.get 9 (by kernel_rfl)
          simp only [Fact.holds] at h57
          clear hd
          simp only [h57, h60, h63] at hK
          go_simp
          exact hK.out (.bool false) w (Chg.refl _ _) rfl
        · intro u w hc hd K hK -- 65
          have h57 : (Fact.val (.bool false)).holds (u 57) w := hd.get 9 (by kernel_rfl)
          simp only [Fact.holds] at h57
          have h64 : (Fact.val (.bool false)).holds (u 64) w := hd.get 16 (by kernel_rfl)
          simp only [Fact.holds] at h64
          clear hd
          simp only [h57, h64] at hK
          go_simp
          exact hK.out (.bool false) w (Chg.refl _ _) rfl
      · intro u w hc hA
        have e65 : u 65 = _ := hA.at 65 (by kernel_rfl)
        clear hA
        rw [e65]
        clear e65
        have HW5 : Hid (Chg (fun _ => False) w4 w) := hc
        clear hc
        generalize w = w5 at *
        go_wp2_with fail
        go_loopw [68] (fun i wq => ∃ j : Nat, j ≤ k ∧ i = .int .i64 j ∧ Hid (Chg (fun _ => False) w4 wq)) (fun i _ => k - (intOf i).toNat)
        case atStart => exact ⟨0, by omega, rfl, HW5⟩
        case round =>
          clear HW5
          obtain ⟨j, hj1, rfl, HCq⟩ := hrel
          by_cases hlt2 : j < k
          · have jt : j < ts.length := by rw [HTl.out]; exact hlt2
            have jn : j < nss.length := by rw [HA.out.ln]; exact hlt2
            have A2 := HA.out.keep (chg_then C4 HCq.out)
            obtain ⟨x, rfl, ca⟩ := A2.at_ j jn
            have hL := HL4.out.new HCq.out
            have cl := cell_chg (HCL.out j jt) HCq.out
            obtain ⟨y, rfl, cf0⟩ := HCF.out j jt
            have cf := cell_chg cf0 HCq.out
            rw [addk, Nat.zero_add] at cl
            have hmem : ts[j] ∈ ts := List.getElem_mem _
            have hns : nss[j] = ts[j].ns := by
              have := HTs.out
              subst this
              simp
            rw [hns] at ca
            have hrow := hL.row hmem
            have hroom := hL.roomy hmem
            have hbj := (hL.each _ hmem).2.2.2
            have hlenj : ts[j].ns.length ≤ 1048576 := by rw [← hns]; have := flat_len jn HFl.out; omega
            have hv : (convert 24 9 (.slice (some ⟨ts[j].g, 0, none⟩) ts[j].ns.length ts[j].cap)).run Tryd.prog wr = .ok (.string (str ts[j].ns)) wr := conv8_here hrow
            obtain ⟨cap0, w6, hconv, hrow6, hle6, c6⟩ := conv_str wr ts[j].ns hbj
            have HK6 : Hid (Roomy w6 ts[j].g ts[j].ns.length ts[j].cap ts[j].ns) := hroom.new c6
            have HR6 : Hid (Row8 w6 (some ⟨wr.heap.size, 0, none⟩) ts[j].ns.length cap0 (up ts[j].ns)) := hrow6
            have HC6 : Hid (Chg (fun _ => False) w4 w6) := chg_then HCq.out c6
            have hjk : (j : Int) < (k : Int) + 1 := by omega
            simp only [Lt.pc] at cl
            simp only [Lt.fl] at cf
            clear hrow hroom hL A2 cf0 hrow6 c6 hns hle6
            generalize ts[j] = t at *
            obtain ⟨g, cap, ns⟩ := t
            simp only at cl cf ca hconv hv HK6 HR6 hlenj hbj hmem
            obtain ⟨m, HM⟩ : ∃ m, Hid (ns.length = m) := ⟨_, rfl⟩
            rw [HM.out] at cl cf hconv hv HK6 HR6 hlenj
            generalize str ns = sN at *
            clear hbj hmem
            go_wp2_with fail
            refine (kept_any g m cap _ cap0 ns w6 HK6.out HR6.out (by omega)).mono ?_
            rintro e w7 ⟨rfl, c7⟩
            have HC7 : Hid (Chg (fun _ => False) w4 w7) := chg_then HC6.out c7
            clear c7 HC6 HK6 HR6 hconv hv cl cf ca
            go_wp2
            go_roundw
            case rel => exact ⟨j + 1, by omega, by go_num, HC7⟩
            case measure => simp [intOf]; omega
          · obtain ⟨ms, HMs⟩ : ∃ ms, Hid ((ts.map fun t => over t.ns) = ms) := ⟨_, rfl⟩
            have HMl : Hid (ms.length = k) := by show _ = _; rw [← HMs.out, List.length_map]; exact HTl.out
            have HMf : Hid (ms.flatten.length ≤ 1048576) := by
              show _ ≤ _
              rw [← HMs.out, over_sum, HTs.out]
              exact HFl.out
            have HL6 : Hid (Lents wr w0.heap.size (mixed ts 0)) := by show Lents _ _ _; rw [mixed_zero]; exact HL4.out.new HCq.out
            go_wp2_with fail
            generalize wr = W6 at *
            go_loopw [15, 93] (fun s i wq => ∃ p : Nat, p ≤ k ∧ i = .int .i64 p ∧ s = .string (str (ms.take p).flatten) ∧ Hid (Lents wq w0.heap.size (mixed ts p)) ∧ Hid (Chg (fun z => ∃ t ∈ ts, t.g = z) W6 wq)) (fun _ i _ => k - (intOf i).toNat)
            case atStart => exact ⟨0, by omega, rfl, rfl, HL6, Chg.refl _ _⟩
            case round =>
              clear HL6
              obtain ⟨p, hp1, rfl, rfl, HLp, HCp⟩ := hrel
              have HCW : Hid (Chg (fun z => ∃ t ∈ ts, t.g = z) w4 wr) := (HCq.out.mono (fun _ f => f.elim)).trans HCp.out (fun _ e => .inl e)
              have hnl : ¬ ∃ t ∈ ts, t.g = gl := fun ⟨t, ht, e⟩ => HGl.out t ht e
              by_cases hlt3 : p < k
              · have pt : p < ts.length := by rw [HTl.out]; exact hlt3
                have pm : p < ms.length := by rw [HMl.out]; exact hlt3
                have hmp : ms[p] = over ts[p].ns := by
                  have := HMs.out
                  subst this
                  simp
                have hfl := flat_len pm HMf.out
                have hmem : ts[p] ∈ ts := List.getElem_mem _
                have HNx : Hid ((ms.take (p + 1)).flatten = (ms.take p).flatten ++ over ts[p].ns) := by show _ = _; rw [flat_take ms p pm, hmp]
                rw [hmp, over_len] at hfl
                have HOv : Hid (∀ w', Chg (fun k => k = ts[p].g) wr w' → Blk w' ts[p].g (over ts[p].ns ++ [165]) → Lents w' w0.heap.size (mixed ts (p + 1))) := fun w' hc hb => HLp.out.over pt hc hb
                have HCs : Hid (∀ w', Chg (fun k => k = ts[p].g) wr w' → Chg (fun z => ∃ t ∈ ts, t.g = z) W6 w') := fun w' hc => HCp.out.trans hc (fun _ e => .inl ⟨_, hmem, e.symm⟩)
                have hE := HLp.out.each _ (mixed_at ts p pt)
                have HB0 : Hid (Blk wr ts[p].g (opart 0 ts[p].ns ++ [165])) := by show Blk _ _ _; rw [opart_zero]; exact hE.1
                have hbyt := hE.2.2.2
                have hgne : gl ≠ ts[p].g := fun e => hnl ⟨_, hmem, e.symm⟩
                have cl := cell_at (HCL.out p pt) HCW.out (by rw [addk]; exact hnl)
                rw [addk, Nat.zero_add] at cl
                simp only [Lt.pc] at cl
                clear hE hmem hmp hnl
                generalize ts[p] = t at *
                obtain ⟨g, cap, ns⟩ := t
                simp only at cl hgne hbyt HB0 HCs HOv HNx hfl
                obtain ⟨m, HM⟩ : ∃ m, Hid (ns.length = m) := ⟨_, rfl⟩
                rw [HM.out] at cl hfl
                have hml : m ≤ 1048576 := by omega
                have hpk : (p : Int) < (k : Int) + 1 := by omega
                have HFl2 : Hid ((ms.take p).flatten.length + m ≤ 1048576) := hfl
                clear hfl
                obtain ⟨A, HAf⟩ : ∃ A, Hid ((ms.take p).flatten = A) := ⟨_, rfl⟩
                rw [HAf.out] at HNx HFl2
                simp only [HAf.out]
                have HSA : Hid (str A ++ str (over ns) = str (A ++ over ns)) := str_append _ _
                have hcond : ¬ (9223372036854775807 < (str A).size + (str (over ns)).size) := by
                  rw [str_size, str_size, over_len, HM.out]
                  have := HFl2.out
                  omega
                obtain ⟨sC, HSC⟩ : ∃ sC, Hid (str (A ++ over ns) = sC) := ⟨_, rfl⟩
                rw [HSC.out] at HSA
                have HSO : Hid (∀ w', Blk w' g (over ns ++ [165]) → (convert 24 9 (.slice (some ⟨g, 0, none⟩) m cap)).run Tryd.prog w' = .ok (.string (str (over ns))) w') := fun w' hb => by
                  have h := hb.row m cap (by simp [over_len, HM.out])
                  rw [List.take_left' (by rw [over_len, HM.out])] at h
                  exact conv8_here h
                generalize str (over ns) = sO at *
                generalize str A = sA at *
                go_wp2_with fail
                generalize wr = W7 at *
                go_loopw [101] (fun i wq => ∃ q : Nat, q ≤ m ∧ i = .int .i64 q ∧ Hid (Blk wq g (opart q ns ++ [165])) ∧ Hid (Chg (fun z => z = g) W7 wq)) (fun i _ => m - (intOf i).toNat)
                case atStart => exact ⟨0, by omega, rfl, HB0, Chg.refl _ _⟩
                case round =>
                  clear HB0
                  obtain ⟨q, hq1, rfl, HBq, HCz⟩ := hrel
                  have clq := cell_at cl HCz.out hgne
                  by_cases hlt4 : q < m
                  · have hqn : q < ns.length := by rw [HM.out]; exact hlt4
                    have hlo : (opart q ns ++ [165]).length = m + 1 := by rw [List.length_append, opart_len q ns (by omega), HM.out]; rfl
                    have cbq := HBq.out.cell q (by omega)
                    rw [opart_get q ns hqn] at cbq
                    have HSet : Hid (∀ w', Chg (fun _ => False) wr w' → Blk (w'.setCell ⟨g, q, none⟩ (.int .u8 (ov1 q (ns.getD q 0) : Nat))) g (opart (q + 1) ns ++ [165])) := fun w' hc => by
                      have := (HBq.out.keep hc (fun f => f)).set q (ov1 q (ns.getD q 0)) (by omega)
                      rw [opart_set q ns hqn] at this
                      exact this
                    have HFr : Hid (∀ w', Chg (fun _ => False) wr w' → w'.frozen? ⟨g, q, none⟩ = false) := fun w' hc => (HBq.out.keep hc (fun f => f)).frozen q
                    have hbb := Sha.byte_getD hbyt q
                    have HOo : Hid (ov1 q (ns.getD q 0) = ((ns.getD q 0 + q % 256) % 256 + 1) % 256) := rfl
                    rw [HOo.out] at HSet
                    clear HOo hlo
                    generalize ns.getD q 0 = b at *
                    have e1 : (q : Int) % 256 = ((q % 256 : Nat) : Int) := by omega
                    have e1w : IntKind.u8.wrap (q : Int) = ((q % 256 : Nat) : Int) := by simp [IntKind.wrap, IntKind.signed, IntKind.bits]
                    have l1 : q % 256 < 256 := Nat.mod_lt _ (by omega)
                    generalize q % 256 = x1 at *
                    have e2 : ((b : Int) + (x1 : Int)) % 256 = (((b + x1) % 256 : Nat) : Int) := by omega
                    have e2w : IntKind.u8.wrap ((b : Int) + (x1 : Int)) = (((b + x1) % 256 : Nat) : Int) := by simp [IntKind.wrap, IntKind.signed, IntKind.bits]
                    have l2 : (b + x1) % 256 < 256 := Nat.mod_lt _ (by omega)
                    generalize (b + x1) % 256 = x2 at *
                    have e3 : ((x2 : Int) + 1) % 256 = (((x2 + 1) % 256 : Nat) : Int) := by omega
                    have e3w : IntKind.u8.wrap ((x2 : Int) + 1) = (((x2 + 1) % 256 : Nat) : Int) := by simp [IntKind.wrap, IntKind.signed, IntKind.bits]
                    have l3 : (x2 + 1) % 256 < 256 := Nat.mod_lt _ (by omega)
                    generalize (x2 + 1) % 256 = o at *
                    have hqm : (q : Int) < (m : Int) := by omega
                    go_wp2_with fail
                    generalize decide ((q : Int) < (m : Int)) = dq at *
                    refine wp_region_last (mk := fun u => #[_, _, _, _, _, _, _, _, _, _, _, _, _, _, _, _, _, _, _, _, _, _, _, _, _, _, _, _, _, _, _, _, _, _, _, _, _, _, _, _, _, _, _, _, _, _, _, _, _, _, _, _, _, _, _, _, _, _, _, _, _, _, _, _, _, _, _, _, _, _, _, _, _, _, _, _, _, _, _, _, _, _, _, _, _, _, _, _, _, _, _, _, _, _, _, _, _, _, _, _, _, _, _, _, u 104, u 105, u 106, u 107, u 108, u 109, u 110, u 111, u 112, u 113, u 114, u 115, u 116, u 117, u 118, u 119, u 120, _, _, _, _, _, _, _, _, _, _, _, _, _, _, _, _, _, _, _, _, _, _, _, _, _, _, _]) (F := fun slot vv ww => (look [(104, .val (.slice (some ⟨gl, 0, none⟩) (k + 1) lc4)), (105, .val (.int .i64 (p : Nat))), (106, .val (.pointer (some ⟨gl, p, none⟩))), (107, .val (.slice (some ⟨g, 0, none⟩) m cap)), (108, .val (.int .i64 (q : Nat))), (109, .val (.slice (some ⟨gl, 0, none⟩) (k + 1) lc4)), (110, .val (.int .i64 (p : Nat))), (111, .val (.pointer (some ⟨gl, p, none⟩))), (112, .val (.slice (some ⟨g, 0, none⟩) m cap)), (113, .val (.int .i64 (q : Nat))), (114, .val (.pointer (some ⟨g, q, none⟩))), (115, .val (.int .u8 (b : Nat))), (116, .val (.int .i64 (q : Nat))), (117, .val (.int .u8 (x1 : Nat))), (118, .val (.int .u8 (x2 : Nat))), (119, .val (.int .u8 (o : Nat))), (120, .val (.pointer (some ⟨g, q, none⟩)))] slot).holds vv ww) (fun t => if t = 104 then u104 else if t = 105 then u105 else if t = 106 then u106 else if t = 107 then u107 else if t = 108 then u108 else if t = 109 then u109 else if t = 110 then u110 else if t = 111 then u111 else if t = 112 then u112 else if t = 113 then u113 else if t = 114 then u114 else if t = 115 then u115 else if t = 116 then u116 else if t = 117 then u117 else if t = 118 then u118 else if t = 119 then u119 else if t = 120 then u120 else undef) rfl (by kernel_rfl) 17 _ rfl rfl (by kernel_rfl) ?_ (fun _ v w w' hc h => Fact.stays _ v w w' hc h) ?_ ?_
                    · repeat (refine ⟨⟨_, rfl, fun _ _ => rfl⟩, ?_⟩)
                      exact trivial
                    · refine ⟨?_, ?_, ?_, ?_, ?_, ?_, ?_, ?_, ?_, ?_, ?_, ?_, ?_, ?_, ?_, ?_, ?_, trivial⟩
                      · intro u w hc hd K hK -- 104
                        clear hd
                        go_simp
                        exact hK.out (.slice (some ⟨gl, 0, none⟩) (k + 1) lc4) w (Chg.refl _ _) rfl
                      · intro u w hc hd K hK -- 105
                        clear hd
                        go_simp
                        exact hK.out (.int .i64 (p : Nat)) w (Chg.refl _ _) rfl
                      · intro u w hc hd K hK -- 106
                        have h104 : (Fact.val (.slice (some ⟨gl, 0, none⟩) (k + 1) lc4)).holds (u 104) w := hd.get 0 (by kernel_rfl)
                        simp only [Fact.holds] at h104
                        have h105 : (Fact.val (.int .i64 (p : Nat))).holds (u 105) w := hd.get 1 (by kernel_rfl)
                        simp only [Fact.holds] at h105
                        clear hd
                        simp only [h104, h105] at hK
                        go_simp
                        exact hK.out (.pointer (some ⟨gl, p, none⟩)) w (Chg.refl _ _) rfl
                      · intro u w hc hd K hK -- 107
                        have h106 : (Fact.val (.pointer (some ⟨gl, p, none⟩))).holds (u 106) w := hd.get 2 (by kernel_rfl)
                        simp only [Fact.holds] at h106
                        clear hd
                        simp only [h106] at hK
                        have hcell := cell_chg clq hc
                        go_simp
                        exact hK.out _ _ (Chg.refl _ _) rfl
                      · intro u w hc hd K hK -- 108
                        clear hd
                        go_simp
                        exact hK.out (.int .i64 (q : Nat)) w (Chg.refl _ _) rfl
                      · intro u w hc hd K hK -- 109
                        clear hd
                        go_simp
                        exact hK.out (.slice (some ⟨gl, 0, none⟩) (k + 1) lc4) w (Chg.refl _ _) rfl
                      · intro u w hc hd K hK -- 110
                        clear hd
                        go_simp
                        exact hK.out (.int .i64 (p : Nat)) w (Chg.refl _ _) rfl
                      · intro u w hc hd K hK -- 111
                        have h109 : (Fact.val (.slice (some ⟨gl, 0, none⟩) (k + 1) lc4)).holds (u 109) w := hd.get 5 (by kernel_rfl)
                        simp only [Fact.holds] at h109
                        have h110 : (Fact.val (.int .i64 (p : Nat))).holds (u 110) w := hd.get 6 (by kernel_rfl)
                        simp only [Fact.holds] at h110
                        clear hd
                        simp only [h109, h110] at hK
                        go_simp
                        exact hK.out (.pointer (some ⟨gl, p, none⟩)) w (Chg.refl _ _) rfl
                      · intro u w hc hd K hK -- 112
                        have h111 : (Fact.val (.pointer (some ⟨gl, p, none⟩))).holds (u 111) w := hd.get 7 (by kernel_rfl)
                        simp only [Fact.holds] at h111
                        clear hd
                        simp only [h111] at hK
                        have hcell := cell_chg clq hc
                        go_simp
                        exact hK.out _ _ (Chg.refl _ _) rfl
                      · intro u w hc hd K hK -- 113
                        clear hd
                        go_simp
                        exact hK.out (.int .i64 (q : Nat)) w (Chg.refl _ _) rfl
                      · intro u w hc hd K hK -- 114
                        have h112 : (Fact.val (.slice (some ⟨g, 0, none⟩) m cap)).holds (u 112) w := hd.get 8 (by kernel_rfl)
                        simp only [Fact.holds] at h112
                        have h113 : (Fact.val (.int .i64 (q : Nat))).holds (u 113) w := hd.get 9 (by kernel_rfl)
                        simp only [Fact.holds] at h113
                        clear hd
                        simp only [h112, h113] at hK
                        go_simp
                        exact hK.out (.pointer (some ⟨g, q, none⟩)) w (Chg.refl _ _) rfl
                      · intro u w hc hd K hK -- 115
                        have h114 : (Fact.val (.pointer (some ⟨g, q, none⟩))).holds (u 114) w := hd.get 10 (by kernel_rfl)
                        simp only [Fact.holds] at h114
                        clear hd
                        simp only [h114] at hK
                        have hcell := cell_chg cbq hc
                        go_simp
                        exact hK.out _ _ (Chg.refl _ _) rfl
                      · intro u w hc hd K hK -- 116
                        clear hd
                        go_simp
                        exact hK.out (.int .i64 (q : Nat)) w (Chg.refl _ _) rfl
                      · intro u w hc hd K hK -- 117
                        have h116 : (Fact.val (.int .i64 (q : Nat))).holds (u 116) w := hd.get 12 (by kernel_rfl)
                        simp only [Fact.holds] at h116
                        clear hd
                        simp only [h116] at hK
                        go_simp
                        exact hK.out (.int .u8 (x1 : Nat)) w (Chg.refl _ _) rfl
                      · intro u w hc hd K hK -- 118
                        have h115 : (Fact.val (.int .u8 (b : Nat))).holds (u 115) w := hd.get 11 (by kernel_rfl)
                        simp only [Fact.holds] at h115
                        have h117 : (Fact.val (.int .u8 (x1 : Nat))).holds (u 117) w := hd.get 13 (by kernel_rfl)
                        simp only [Fact.holds] at h117
                        clear hd
                        simp only [h115, h117] at hK
                        go_simp
                        exact hK.out (.int .u8 (x2 : Nat)) w (Chg.refl _ _) rfl
                      · intro u w hc hd K hK -- 119
                        have h118 : (Fact.val (.int .u8 (x2 : Nat))).holds (u 118) w := hd.get 14 (by kernel_rfl)
                        simp only [Fact.holds] at h118
                        clear hd
                        simp only [h118] at hK
                        go_simp
                        exact hK.out (.int .u8 (o : Nat)) w (Chg.refl _ _) rfl
                      · intro u w hc hd K hK -- 120
                        have h107 : (Fact.val (.slice (some ⟨g, 0, none⟩) m cap)).holds (u 107) w := hd.get 3 (by kernel_rfl)
                        simp only [Fact.holds] at h107
                        have h108 : (Fact.val (.int .i64 (q : Nat))).holds (u 108) w := hd.get 4 (by kernel_rfl)
                        simp only [Fact.holds] at h108
                        clear hd
                        simp only [h107, h108] at hK
                        go_simp
                        exact hK.out (.pointer (some ⟨g, q, none⟩)) w (Chg.refl _ _) rfl
                    · intro u w hc hA K hK
                      have a119 : u 119 = _ := hA.at 119 (by kernel_rfl)
                      have a120 : u 120 = _ := hA.at 120 (by kernel_rfl)
                      clear hA
                      have HB1 : Hid _ := HSet.out w hc
                      have HC1 : Hid (Chg (fun z => z = g) W7 (w.setCell ⟨g, q, none⟩ (.int .u8 (o : Nat)))) := (HCz.out.trans (T := fun _ => False) hc (fun _ f => f.elim)).setCell (p := ⟨g, q, none⟩) (.inl rfl) _
                      have cbw := cell_chg cbq hc
                      have fbw := HFr.out w hc
                      clear HSet HFr HCz HBq cbq clq
                      simp only [a119, a120]
                      go_simp
                      refine hK.out _ _ ?_
                      generalize w.setCell ⟨g, q, none⟩ (.int .u8 (o : Nat)) = w8 at *
                      clear cbw fbw hc a119 a120 hK
                      go_simp
                      go_wp2
                      go_roundw
                      case rel => exact ⟨q + 1, by omega, by go_num, HB1, HC1⟩
                      case measure => simp [intOf]; omega
                  · have hqm : q = ns.length := by have := HM.out; omega
                    have hBf : Blk wr g (over ns ++ [165]) := by
                      have := HBq.out
                      rw [hqm, opart_all] at this
                      exact this
                    have hv := HSO.out wr hBf
                    have HL8 : Hid (Lents wr w0.heap.size (mixed ts (p + 1))) := HOv.out wr HCz.out hBf
                    have HC8 : Hid (Chg (fun z => ∃ t ∈ ts, t.g = z) W6 wr) := HCs.out wr HCz.out
                    have hsadd : sA ++ sO = sC := HSA.out
                    clear hqm hBf HBq HCz HOv HCs
                    go_wp2
                    go_roundw
                    case rel => exact ⟨p + 1, by omega, by go_num, by rw [HNx.out, HSC.out], HL8, HC8⟩
                    case measure => simp [intOf]; omega
              · have hpk : p = k := by omega
                have hL : Lents wr w0.heap.size (ts.map Lt.ov) := by
                  have := HLp.out
                  rw [hpk, ← HTl.out, mixed_all] at this
                  exact this
                have C9 : Chg (fun _ => False) w0 wr := C4.trans HCW.out (fun z e => by
                  obtain ⟨t, ht, e⟩ := e
                  have := (HL4.out.each t ht).2.2.1
                  exact .inr (by omega))
                have HP9 : Hid (Pieces wr ⟨gl, 0, none⟩ ms) := by
                  show Pieces _ _ _
                  rw [← HMs.out, ← ov_map]
                  refine hL.pieces _ (fun i hi => ?_)
                  have hi2 : i < ts.length := by simpa using hi
                  rw [List.getElem_map, Lt.ov_pc]
                  exact cell_at (HCL.out i hi2) HCW.out (by rw [addk]; exact hnl)
                have cb := cell_at HCB.out HCW.out hnl
                have hrb := row8_keep HRB.out HCW.out (fun x e h => by
                  cases e
                  obtain ⟨t, ht, e⟩ := h
                  have h1 := HGm.out t ht
                  have e2 : t.g = gm := e
                  omega)
                have hv : (convert 24 9 (.slice (some ⟨gm, 0, none⟩) 6 6)).run Tryd.prog wr = .ok (.string ⟨#[98, 101, 104, 105, 110, 100]⟩) wr := by
                  rw [← behind_str]
                  exact conv8_here hrb
                have HT9 : Hid (Tab wr) := HT.out.new C9
                have hbm : Byt ms.flatten := fun y hy => by
                  obtain ⟨l, hl, hy⟩ := List.mem_flatten.1 hy
                  rw [← HMs.out] at hl
                  obtain ⟨t, _, rfl⟩ := List.mem_map.1 hl
                  exact over_byt _ y hy
                have htk : ms.take p = ms := List.take_of_length_le (by rw [HMl.out, hpk]; exact Nat.le_refl _)
                rw [htk]
                have hsl := slice_hR wr (some ⟨gl, 0, none⟩) (k + 1) lc4 k hlk
                have hsl2 := slice_hRb wr (some ⟨gl, 0, none⟩) (k + 1) lc4 k hlk
                obtain ⟨MF, HMF⟩ : ∃ MF, Hid (ms.flatten = MF) := ⟨_, rfl⟩
                have HMf2 : Hid (ms.flatten.length < 2305843009213693952) := by have := HMf.out; show _ < _; omega
                rw [HMF.out] at hbm HMf
                simp only [HMF.out]
                obtain ⟨E, HE⟩ : ∃ E, Hid (Sha.sum Sha.I 0 MF = E) := ⟨_, rfl⟩
                have l_E : E.length = 32 := by rw [← HE.out]; exact Sha.told_len _
                have hkk : (k : Int) < (k : Int) + 1 := by omega
                clear hpk hL htk hnl hrb
                go_wp2_with fail
                refine (sum_some ⟨gl, 0, none⟩ k lc4 ms wr HT9.out HP9.out HMl.out (by omega) HMf2.out).mono ?_
                rintro e w8 ⟨rfl, c8⟩
                rw [HMF.out, HE.out]
                obtain ⟨cap0, w9, hconv, hrow9, hle9, c9⟩ := conv_str w8 MF hbm
                obtain ⟨mf, HML⟩ : ∃ mf, Hid (MF.length = mf) := ⟨_, rfl⟩
                have hmf : mf ≤ 1048576 := by have := HMf.out; rw [HML.out] at this; exact this
                rw [HML.out] at hconv hrow9 hle9
                have HR9 : Hid (Row8 w9 (some ⟨w8.heap.size, 0, none⟩) mf cap0 (up MF)) := hrow9
                clear hrow9 hle9
                go_wp2_with fail
                refine (refsum_any _ mf cap0 MF w9 HR9.out hbm (by omega)).mono ?_
                rintro e w10 ⟨rfl, c10⟩
                rw [HE.out]
                have hq := same32 w10 E l_E
                go_wp2
                go_ret
                exact ⟨rfl, chg_then C9 (chg_then c8 (chg_then c9 c10))⟩
end Go.Proofs.YtnedllhlmddmoabDoor
