/- New, Len, Fork, Sum of a hash, Sum of pieces, Resume: their contracts; of no statement by themselves. -/
import Derived.Test.YtnedllhlmddmoabDoorWrite
import Derived.Great.BuildSlice
namespace Go.Proofs.YtnedllhlmddmoabDoor
open Go.RowKit
set_option linter.unusedVariables false

theorem eat_nil (s : List Nat) : Sha.eat s [] = s := rfl
theorem rest_nil : Sha.rest [] = [] := rfl

theorem eat_start {w : World} {a n : Nat} {s : List Nat} (h : Hs w a s (List.replicate 64 0) n) : Eat w a s n [] :=
  ⟨_, h, Byt.zeros 64, rfl⟩

theorem built_new : Tryd.prog.built 56 [(0, .agg (wds Sha.I).toArray)] = some (hcells Sha.I (List.replicate 64 0) 0).toArray := by kernel_rfl

theorem built_new' (a : Act) (h : a.eval (.tmp 1) = .agg (wds Sha.I).toArray) : Tryd.prog.built 56 ((#[((0 : Nat), Operand.tmp 1)].map fun (i, x) => (i, a.eval x)).toList) = some (hcells Sha.I (List.replicate 64 0) 0).toArray := by
  have e : ((#[((0 : Nat), Operand.tmp 1)].map fun (i, x) => (i, a.eval x)).toList) = [(0, .agg (wds Sha.I).toArray)] := by simp [h]
  rw [e]
  exact built_new

set_option maxHeartbeats 4000000 in
set_option maxRecDepth 100000 in
theorem new_any (w : World) (hT : Tab w) :
    Calls Tryd.prog 11 #[] w fun e w' => ∃ a, e = .returned (.pointer (some ⟨a, 0, none⟩)) ∧ w.heap.size ≤ a ∧ Eat w' a Sha.I 0 [] ∧ Chg (fun _ => False) w w' := by
  obtain ⟨t, fr, h0⟩ := hT.t0
  have hi : (Tryd.prog.info? 45).map (·.size) = some (wds Sha.I).toArray.size := infoA8
  go_enter Tryd.func11, Tryd.ntmps11
  go_wp2_with (first
    | refine wpList_load_row rfl 45 (.global 0) rfl 0 rfl t _ fr _ h0 Tryd.underlying45 rfl hi ?_
    | refine wpList_buildTo rfl 56 #[(0, .tmp 1)] rfl (some 2) rfl (hcells Sha.I (List.replicate 64 0) 0).toArray (built_new' _ rfl) ?_)
  go_ret
  exact ⟨_, rfl, Nat.le_refl _, eat_start ⟨heap_alloc_last _ _, rfl, rfl⟩, chg_one _ _⟩

theorem len_any (a : Nat) (s0 : List Nat) (n0 : Nat) (bs : List Nat) (w : World) (hE : Eat w a s0 n0 bs) :
    Calls Tryd.prog 16 #[.pointer (some ⟨a, 0, none⟩)] w fun e w' => e = .returned (.int .i64 ((n0 + bs.length : Nat) : Int)) ∧ w = w' := by
  obtain ⟨blk, hH, _, _⟩ := hE
  have hsz := hH.size
  clear hH
  generalize n0 + bs.length = N at *
  go_enter Tryd.func16, Tryd.ntmps16
  go_wp2
  go_ret
  exact ⟨rfl, rfl⟩

/-- A hash of zeros. -/
def hzero : List Value := hcells (List.replicate 8 0) (List.replicate 64 0) 0
theorem hzero_len : hzero.length = 73 := by simp [hzero, hcells, wds, byts]
theorem infoH2 : (Tryd.prog.info? 56).map (fun i => (i.zero, i.size)) = some (some (.agg hzero.toArray), 73) := by kernel_rfl
theorem zeroH : ∀ w, (zeroValue 56).run Tryd.prog w = .ok (.agg hzero.toArray) w := (zero_of_info (P := Tryd.prog) infoH2).1

theorem hs_info {s b : List Nat} {n : Nat} (hs : s.length = 8) (hb : b.length = 64) : (Tryd.prog.info? 56).map (·.size) = some (hcells s b n).toArray.size := by
  rw [List.size_toArray, hcells_len hs hb]; exact infoH

set_option maxHeartbeats 4000000 in
set_option maxRecDepth 100000 in
theorem fork_any (a : Nat) (s0 : List Nat) (n0 : Nat) (bs : List Nat) (w : World) (hE : Eat w a s0 n0 bs) :
    Calls Tryd.prog 25 #[.pointer (some ⟨a, 0, none⟩)] w fun e w' => ∃ g, e = .returned (.pointer (some ⟨g, 0, none⟩)) ∧ w.heap.size ≤ g ∧ Eat w' g s0 n0 bs ∧ Chg (fun _ => False) w w' := by
  obtain ⟨blk, hH, hb, hr⟩ := hE
  have hi := hs_info (n := n0 + bs.length) hH.s8 hH.b64
  have hz := zeroH
  have hsz : hzero.toArray.size = (hcells (Sha.eat s0 bs) blk (n0 + bs.length)).toArray.size := by rw [List.size_toArray, List.size_toArray, hzero_len, hcells_len hH.s8 hH.b64]
  have h0 : (w.alloc (.cells hzero.toArray 56)).heap[w.heap.size]? = some (.cells hzero.toArray 56 (0, 0)) := heap_alloc_last _ _
  go_enter Tryd.func25, Tryd.ntmps25
  go_wp2_with (first
    | refine wpList_load_row rfl 56 (.tmp 5) rfl a rfl 56 _ (0, 0) _ hH.blk Tryd.underlying56 rfl hi ?_
    | refine wpList_store_row rfl 56 (.tmp 3) (.tmp 6) rfl w.heap.size _ rfl rfl 56 _ h0 hi hsz (hcells_one _ _ _) ?_)
  rw [World.setRow_alloc_new]
  go_ret
  exact ⟨_, rfl, Nat.le_refl _, ⟨blk, ⟨heap_alloc_last _ _, hH.s8, hH.b64⟩, hb, hr⟩, chg_one _ _⟩

set_option maxHeartbeats 4000000 in
set_option maxRecDepth 100000 in
theorem hsum_any (a : Nat) (s0 : List Nat) (n0 : Nat) (bs : List Nat) (w : World) (hT : Tab w) (hs : Sha.St s0) (hn0 : n0 % 64 = 0) (hE : Eat w a s0 n0 bs) (hN : n0 + bs.length < 2305843009213693952) :
    Calls Tryd.prog 14 #[.pointer (some ⟨a, 0, none⟩)] w fun e w' => e = .returned (.agg (byts (Sha.sum s0 n0 bs)).toArray) ∧ Chg (fun _ => False) w w' := by
  have hz := zeroH
  have htwo := hT.two
  have HZ : Hid ((byts (List.replicate 32 0)).toArray = #[.int .u8 0, .int .u8 0, .int .u8 0, .int .u8 0, .int .u8 0, .int .u8 0, .int .u8 0, .int .u8 0, .int .u8 0, .int .u8 0, .int .u8 0, .int .u8 0, .int .u8 0, .int .u8 0, .int .u8 0, .int .u8 0, .int .u8 0, .int .u8 0, .int .u8 0, .int .u8 0, .int .u8 0, .int .u8 0, .int .u8 0, .int .u8 0, .int .u8 0, .int .u8 0, .int .u8 0, .int .u8 0, .int .u8 0, .int .u8 0, .int .u8 0, .int .u8 0]) := rfl
  have c0 := chg_one w (.cells (byts (List.replicate 32 0)).toArray 27)
  have hE0 := hE.new c0
  have hT0 := hT.new c0
  have hr0 : (w.alloc (.cells (byts (List.replicate 32 0)).toArray 27)).heap[w.heap.size]? = some (.cells (byts (List.replicate 32 0)).toArray 27 (0, 0)) := heap_alloc_last _ _
  clear hE hT
  rw [HZ.out] at c0 hE0 hT0 hr0
  generalize hw1 : w.alloc (.cells #[.int .u8 0, .int .u8 0, .int .u8 0, .int .u8 0, .int .u8 0, .int .u8 0, .int .u8 0, .int .u8 0, .int .u8 0, .int .u8 0, .int .u8 0, .int .u8 0, .int .u8 0, .int .u8 0, .int .u8 0, .int .u8 0, .int .u8 0, .int .u8 0, .int .u8 0, .int .u8 0, .int .u8 0, .int .u8 0, .int .u8 0, .int .u8 0, .int .u8 0, .int .u8 0, .int .u8 0, .int .u8 0, .int .u8 0, .int .u8 0, .int .u8 0, .int .u8 0] 27) = w1 at *
  have hlt1 : w.heap.size < w1.heap.size := lt_of_blk hr0
  obtain ⟨blk, hH, hb, hr⟩ := hE0
  obtain ⟨N, HN⟩ : ∃ N, Hid (n0 + bs.length = N) := ⟨_, rfl⟩
  rw [HN.out] at hH hN
  have hi := hs_info (n := N) hH.s8 hH.b64
  have hsz : hzero.toArray.size = (hcells (Sha.eat s0 bs) blk (N)).toArray.size := by rw [List.size_toArray, List.size_toArray, hzero_len, hcells_len hH.s8 hH.b64]
  have h0 : (w1.alloc (.cells hzero.toArray 56)).heap[w1.heap.size]? = some (.cells hzero.toArray 56 (0, 0)) := heap_alloc_last _ _
  have cs := hH.size
  have c2 := chg_one w1 (.cells (hcells (Sha.eat s0 bs) blk (N)).toArray 56)
  have hE2 : Eat (w1.alloc (.cells (hcells (Sha.eat s0 bs) blk (N)).toArray 56)) w1.heap.size s0 n0 bs := ⟨blk, by rw [HN.out]; exact ⟨heap_alloc_last _ _, hH.s8, hH.b64⟩, hb, hr⟩
  have cs2 := (hH.new c2).size
  have hset := World.setRow_alloc_new w1 hzero.toArray (hcells (Sha.eat s0 bs) blk (N)).toArray 56
  go_enter Tryd.func14, Tryd.ntmps14
  go_wp2_with (first
    | refine wpList_load_row rfl 56 (.tmp 5) rfl a rfl 56 _ (0, 0) _ hH.blk Tryd.underlying56 rfl hi ?_
    | refine wpList_store_row rfl 56 (.tmp 3) (.tmp 6) rfl w1.heap.size _ rfl rfl 56 _ h0 hi hsz (hcells_one _ _ _) ?_)
  have hH2 : Eat (w1.alloc (.cells (hcells (Sha.eat s0 bs) blk (N)).toArray 56)) w1.heap.size s0 n0 bs := hE2
  have hT2 := hT0.new c2
  have c02 := chg_then c0 c2
  have hr2 := blk_keep hr0 c2 (fun f => f)
  have hlt2 : w1.heap.size < (w1.alloc (.cells (hcells (Sha.eat s0 bs) blk (N)).toArray 56)).heap.size := by simp
  have hge : 2 ≤ w1.heap.size := by omega
  have hne : w.heap.size ≠ w1.heap.size := by omega
  have hle : w.heap.size ≤ w1.heap.size := by omega
  generalize w1.alloc (.cells (hcells (Sha.eat s0 bs) blk (N)).toArray 56) = w2 at *
  clear hH hE2 c2 c0 hT0 hr0 hr hb h0 cs hi hsz hset hz hw1
  generalize hg : w1.heap.size = g at *
  refine (pad_any (N) w2 (by omega)).mono ?_
  rintro e w3 ⟨p, rfl, hp, hp2, c3⟩
  have hE3 := hH2.new c3
  have hT3 := hT2.new c3
  have c03 := chg_then c02 c3
  have hr3 := blk_keep hr2 c3 (fun f => f)
  have hrow := row8_blk hp2 (Sha.padlen (N)) (Sha.padlen (N)) (Sha.pad_len _)
  have hpl := Sha.padlen_le (N)
  clear hH2 hT2 c02 c3 hr2 cs2
  go_wp2_with fail
  refine (write_any g s0 n0 bs (Sha.pad (N)) (some ⟨p, 0, none⟩) _ _ w3 hT3 hge hs hn0 hE3 hrow (Sha.pad_byt _) (fun _ y e => by cases e; show p ≠ g; omega) (by have := HN.out; omega) (Nat.le_refl _)).mono ?_
  rintro e w4 ⟨rfl, hE4, c4⟩
  have hr4 := blk_keep hr3 c4 hne
  have c04 : Chg (fun _ => False) w w4 := c03.trans c4 (fun i e => .inr (by omega))
  obtain ⟨blk4, hH4, _, _⟩ := hE4
  have hst := Sha.eat_st hs (bs ++ Sha.pad (N))
  have HV : Hid (Sha.sum s0 n0 bs = Sha.told (Sha.eat s0 (bs ++ Sha.pad N))) := by show _ = _; rw [← HN.out]; rfl
  have hi8 : (Tryd.prog.info? 45).map (·.size) = some (wds (Sha.eat s0 (bs ++ Sha.pad (N)))).length := by rw [wds_len, hst.len]; exact infoA8
  clear hT3 hE3 c03 hr3 hrow c4 hp hp2
  go_wp2_with (refine wpList_load_part rfl 45 (.tmp 13) rfl ⟨g, 0, none⟩ rfl _ _ hH4.state Tryd.underlying45 rfl hi8 ?_)
  refine (told_any _ w4 hst).mono ?_
  rintro e w5 ⟨rfl, c5⟩
  have hr5 := blk_keep hr4 c5 (fun f => f)
  have c05 := chg_then c04 c5
  have hi5 : (Tryd.prog.info? 27).map (·.size) = some (byts (Sha.told (Sha.eat s0 (bs ++ Sha.pad N)))).toArray.size := by rw [byts_size, Sha.told_len]; exact infoB32
  have hz5 : (byts (List.replicate 32 0)).toArray.size = (byts (Sha.told (Sha.eat s0 (bs ++ Sha.pad N)))).toArray.size := by rw [byts_size, byts_size, Sha.told_len]; rfl
  rw [HZ.out] at hz5
  clear hH4 hst hi8 hr4 c5 c04 HZ
  go_wp2_with (refine wpList_store_row rfl 27 (.tmp 2) (.tmp 15) rfl w.heap.size _ rfl rfl 27 _ hr5 hi5 hz5 (byts_one _) ?_)
  (try simp only [Exit.inBlock, Exit.then])
  refine bodyPost_ret (results_cell_row rfl _ _ w.heap.size 27 _ (0, 0) _ rfl (setRow_heap _ _ _ _ _ _ hr5) Tryd.underlying27 rfl hi5) rfl ⟨by rw [HV.out], ?_⟩
  exact c05.trans (chg_setRow _ _ _) (fun b hb => .inr (by omega))

theorem take_flat (nss : List (List Nat)) (k : Nat) : (nss.take k).flatten.length ≤ nss.flatten.length := by
  have h : nss.flatten = (nss.take k).flatten ++ (nss.drop k).flatten := by rw [← List.flatten_append, List.take_append_drop]
  rw [h, List.length_append]
  omega

/-- A list that was there lies in no block that is made later. -/
theorem Row8.below {w : World} {ad : Option Addr} {m c : Nat} {xs : List Int} (h : Row8 w ad m c xs) (hm : 0 < m) : ∀ y, ad = some y → y.block < w.heap.size := by
  rintro y rfl
  rcases h.2 with ⟨e, _⟩ | ⟨x, e, hx⟩
  · cases e
  · cases e
    have hl := h.1
    have h0 := hx 0 (.int .u8 xs[0]) (by simp [List.getElem?_eq_getElem (show 0 < xs.length by omega)])
    have hlt := World.block_lt_of_cell? w _ h0
    have hb : (y.add 0).block = y.block := by simp [Addr.add]
    omega

set_option maxHeartbeats 4000000 in
set_option maxRecDepth 100000 in
theorem sum_some (x : Addr) (n c : Nat) (nss : List (List Nat)) (w : World) (HT : Hid (Tab w)) (HX : Hid (Pieces w x nss)) (HM : Hid (nss.length = n)) (hl : n ≤ 140737488355328) (hN : nss.flatten.length < 2305843009213693952) :
    Calls Tryd.prog 6 #[.slice (some x) n c] w fun e w' => e = .returned (.agg (byts (Sha.sum Sha.I 0 nss.flatten)).toArray) ∧ Chg (fun _ => False) w w' := by
  have HZ : Hid ((byts (List.replicate 32 0)).toArray = #[.int .u8 0, .int .u8 0, .int .u8 0, .int .u8 0, .int .u8 0, .int .u8 0, .int .u8 0, .int .u8 0, .int .u8 0, .int .u8 0, .int .u8 0, .int .u8 0, .int .u8 0, .int .u8 0, .int .u8 0, .int .u8 0, .int .u8 0, .int .u8 0, .int .u8 0, .int .u8 0, .int .u8 0, .int .u8 0, .int .u8 0, .int .u8 0, .int .u8 0, .int .u8 0, .int .u8 0, .int .u8 0, .int .u8 0, .int .u8 0, .int .u8 0, .int .u8 0]) := rfl
  have c0 := chg_one w (.cells (byts (List.replicate 32 0)).toArray 27)
  have hT0 := HT.out.new c0
  have hr0 : (w.alloc (.cells (byts (List.replicate 32 0)).toArray 27)).heap[w.heap.size]? = some (.cells (byts (List.replicate 32 0)).toArray 27 (0, 0)) := heap_alloc_last _ _
  have htwo := HT.out.two
  go_enter Tryd.func6, Tryd.ntmps6
  go_wp2_with fail
  rw [← HZ.out]
  generalize w.alloc (.cells (byts (List.replicate 32 0)).toArray 27) = w1 at *
  refine (new_any w1 hT0).mono ?_
  rintro e w2 ⟨a, rfl, ha, hE2, c2⟩
  have c02 := chg_then c0 c2
  have hr2 := blk_keep hr0 c2 (fun f => f)
  have haw : w.heap.size < a := by have := lt_of_blk hr0; omega
  clear hr0 c0 hT0 c2 HZ
  go_wp2_with fail
  go_loopw [9] (fun i wr => ∃ k : Nat, k ≤ n ∧ i = .int .i64 k ∧ Eat wr a Sha.I 0 (nss.take k).flatten ∧ wr.heap[w.heap.size]? = some (.cells (byts (List.replicate 32 0)).toArray 27 (0, 0)) ∧ Chg (fun _ => False) w wr) (fun i _ => n - (intOf i).toNat)
  case atStart => exact ⟨0, by omega, rfl, hE2, hr2, c02⟩
  case round =>
    clear hE2 hr2 c02
    obtain ⟨k, hk, rfl, hE, hr, hC⟩ := hrel
    have hfl := take_flat nss k
    by_cases hlt : k < n
    · have hkl : k < nss.length := by rw [HM.out]; exact hlt
      obtain ⟨v, hc, ad, m, d, rfl, hrow, hb, hm⟩ := HX.out k hkl
      have hcr : wr.cell? (x.add k) = some (.slice ad m d) := by
        have hlt := World.block_lt_of_cell? w _ hc
        rw [World.cell?_of_block (w := w) (hC.block _ hlt (fun f => f))]
        exact hc
      have hbel := fun h0 => hrow.below (m := m) h0
      have hrow2 := row8_chg hrow hC
      have hTr := HT.out.new hC
      have hfs := flat_take nss k hkl
      have hf2 := take_flat nss (k + 1)
      rw [hfs, List.length_append] at hf2
      have hml : nss[k].length = m := by rw [← up_length]; exact hrow.1
      have HF : Hid ((nss.take (k + 1)).flatten = (nss.take k).flatten ++ nss[k]) := hfs
      have HE : Hid (Eat wr a Sha.I 0 (nss.take k).flatten) := hE
      have HR : Hid (wr.heap[w.heap.size]? = some (.cells (byts (List.replicate 32 0)).toArray 27 (0, 0))) := hr
      have HC : Hid (Chg (fun _ => False) w wr) := hC
      clear hE hr hC hc hrow hfs
      generalize nss[k] = y at *
      go_wp2_with fail
      refine (write_any a Sha.I 0 (nss.take k).flatten y ad m d wr hTr (by omega) Sha.I_st rfl HE.out hrow2 hb (fun h0 z hz => by have := hbel h0 z hz; omega) (by omega) hm).mono ?_
      rintro e w4 ⟨rfl, hE4, c4⟩
      have HE4 : Hid (Eat w4 a Sha.I 0 (nss.take (k + 1)).flatten) := by show Eat _ _ _ _ _; rw [HF.out]; exact hE4
      have HR4 : Hid (w4.heap[w.heap.size]? = some (.cells (byts (List.replicate 32 0)).toArray 27 (0, 0))) := blk_keep HR.out c4 (by omega)
      have HC4 : Hid (Chg (fun _ => False) w w4) := HC.out.trans c4 (fun i e => .inr (by omega))
      clear hE4 c4 hTr hrow2 hcr HE HR HC
      go_wp2
      go_roundw
      case rel => exact ⟨k + 1, by omega, by go_num, HE4.out, HR4.out, HC4.out⟩
      case measure => simp [intOf]; omega
    · have e0 : nss.take k = nss := List.take_of_length_le (by rw [HM.out]; omega)
      rw [e0] at hE
      have hTr := HT.out.new hC
      clear HX HM hfl e0
      go_wp2_with fail
      refine (hsum_any a Sha.I 0 nss.flatten wr hTr Sha.I_st rfl hE (by omega)).mono ?_
      rintro e w5 ⟨rfl, c5⟩
      have hr5 := blk_keep hr c5 (fun f => f)
      have c05 := chg_then hC c5
      have hi5 : (Tryd.prog.info? 27).map (·.size) = some (byts (Sha.sum Sha.I 0 nss.flatten)).toArray.size := by rw [byts_size, Sha.sum, Sha.told_len]; exact infoB32
      have hz5 : (byts (List.replicate 32 0)).toArray.size = (byts (Sha.sum Sha.I 0 nss.flatten)).toArray.size := by rw [byts_size, byts_size, Sha.sum, Sha.told_len]; rfl
      clear hE hr hC c5 hTr HT
      go_wp2_with (refine wpList_store_row rfl 27 (.tmp 2) (.tmp 18) rfl w.heap.size _ rfl rfl 27 _ hr5 hi5 hz5 (byts_one _) ?_)
      (try simp only [Exit.inBlock, Exit.then])
      refine bodyPost_ret (results_cell_row rfl _ _ w.heap.size 27 _ (0, 0) _ rfl (setRow_heap _ _ _ _ _ _ hr5) Tryd.underlying27 rfl hi5) rfl ⟨rfl, ?_⟩
      exact c05.trans (chg_setRow _ _ _) (fun b hb => .inr (by omega))

/-- The sum of no pieces. -/
theorem sum_none (w : World) (hT : Tab w) : Calls Tryd.prog 6 #[.slice none 0 0] w fun e w' => e = .returned (.agg (byts (Sha.sum Sha.I 0 [])).toArray) ∧ Chg (fun _ => False) w w' := by
  have HT : Hid (Tab w) := hT
  clear hT
  have HZ : Hid ((byts (List.replicate 32 0)).toArray = #[.int .u8 0, .int .u8 0, .int .u8 0, .int .u8 0, .int .u8 0, .int .u8 0, .int .u8 0, .int .u8 0, .int .u8 0, .int .u8 0, .int .u8 0, .int .u8 0, .int .u8 0, .int .u8 0, .int .u8 0, .int .u8 0, .int .u8 0, .int .u8 0, .int .u8 0, .int .u8 0, .int .u8 0, .int .u8 0, .int .u8 0, .int .u8 0, .int .u8 0, .int .u8 0, .int .u8 0, .int .u8 0, .int .u8 0, .int .u8 0, .int .u8 0, .int .u8 0]) := rfl
  have c0 := chg_one w (.cells (byts (List.replicate 32 0)).toArray 27)
  have hT0 := HT.out.new c0
  have hr0 : (w.alloc (.cells (byts (List.replicate 32 0)).toArray 27)).heap[w.heap.size]? = some (.cells (byts (List.replicate 32 0)).toArray 27 (0, 0)) := heap_alloc_last _ _
  have htwo := HT.out.two
  go_enter Tryd.func6, Tryd.ntmps6
  go_wp2_with fail
  rw [← HZ.out]
  generalize w.alloc (.cells (byts (List.replicate 32 0)).toArray 27) = w1 at *
  refine (new_any w1 hT0).mono ?_
  rintro e w2 ⟨a, rfl, ha, hE2, c2⟩
  have c02 := chg_then c0 c2
  have hr2 := blk_keep hr0 c2 (fun f => f)
  have haw : w.heap.size < a := by have := lt_of_blk hr0; omega
  clear hr0 c0 hT0 c2 HZ
  go_wp2_with fail
  go_loopw [9] (fun i wr => i = .int .i64 0 ∧ Eat wr a Sha.I 0 [] ∧ wr.heap[w.heap.size]? = some (.cells (byts (List.replicate 32 0)).toArray 27 (0, 0)) ∧ Chg (fun _ => False) w wr) (fun i _ => 0)
  case atStart => exact ⟨rfl, hE2, hr2, c02⟩
  case round =>
    clear hE2 hr2 c02
    obtain ⟨rfl, hE, hr, hC⟩ := hrel
    have hTr := HT.out.new hC
    go_wp2_with fail
    refine (hsum_any a Sha.I 0 [] wr hTr Sha.I_st rfl hE (by decide)).mono ?_
    rintro e w5 ⟨rfl, c5⟩
    have hr5 := blk_keep hr c5 (fun f => f)
    have c05 := chg_then hC c5
    have hi5 : (Tryd.prog.info? 27).map (·.size) = some (byts (Sha.sum Sha.I 0 [])).toArray.size := by rw [byts_size, Sha.sum, Sha.told_len]; exact infoB32
    have hz5 : (byts (List.replicate 32 0)).toArray.size = (byts (Sha.sum Sha.I 0 [])).toArray.size := by rw [byts_size, byts_size, Sha.sum, Sha.told_len]; rfl
    clear hE hr hC c5 hTr HT
    go_wp2_with (refine wpList_store_row rfl 27 (.tmp 2) (.tmp 18) rfl w.heap.size _ rfl rfl 27 _ hr5 hi5 hz5 (byts_one _) ?_)
    (try simp only [Exit.inBlock, Exit.then])
    refine bodyPost_ret (results_cell_row rfl _ _ w.heap.size 27 _ (0, 0) _ rfl (setRow_heap _ _ _ _ _ _ hr5) Tryd.underlying27 rfl hi5) rfl ⟨rfl, ?_⟩
    exact c05.trans (chg_setRow _ _ _) (fun b hb => .inr (by omega))

theorem built_resume8 (a b c d e f g h n : Nat) : Tryd.prog.built 56 [(0, .agg (wds [a, b, c, d, e, f, g, h]).toArray), (2, .int .i64 (n : Int))] = some (hcells [a, b, c, d, e, f, g, h] (List.replicate 64 0) n).toArray := by kernel_rfl

theorem built_resume (s : List Nat) (n : Nat) (hs : s.length = 8) : Tryd.prog.built 56 [(0, .agg (wds s).toArray), (2, .int .i64 (n : Int))] = some (hcells s (List.replicate 64 0) n).toArray := by
  match s, hs with
  | [a, b, c, d, e, f, g, h], _ => exact built_resume8 a b c d e f g h n

theorem built_resume' (s : List Nat) (n : Nat) (a : Act) (hs : s.length = 8) (h1 : a.eval (.tmp 18) = .agg (wds s).toArray) (h2 : a.eval (.tmp 19) = .int .i64 (n : Int)) : Tryd.prog.built 56 ((#[((0 : Nat), Operand.tmp 18), ((2 : Nat), Operand.tmp 19)].map fun (i, x) => (i, a.eval x)).toList) = some (hcells s (List.replicate 64 0) n).toArray := by
  have e : ((#[((0 : Nat), Operand.tmp 18), ((2 : Nat), Operand.tmp 19)].map fun (i, x) => (i, a.eval x)).toList) = [(0, .agg (wds s).toArray), (2, .int .i64 (n : Int))] := by simp [h1, h2]
  rw [e]
  exact built_resume s n hs

set_option maxHeartbeats 4000000 in
set_option maxRecDepth 100000 in
theorem resume_yes (b : List Nat) (n : Nat) (w : World) (hT : Tab w) (hl : b.length = 32) (hb : ∀ x ∈ b, x < 256) (hn : n % 64 = 0) (hn2 : n ≤ 1152921504606846976) :
    Calls Tryd.prog 27 #[.agg (byts b).toArray, .int .i64 n] w fun e w' => ∃ a, e = .returned (.tuple #[.pointer (some ⟨a, 0, none⟩), .int .i64 0]) ∧ w.heap.size ≤ a ∧ Eat w' a (Sha.known b) n [] ∧ Chg (fun _ => False) w w' := by
  have hi : (Tryd.prog.info? 27).map (·.size) = some (byts b).toArray.size := by rw [byts_size, hl]; exact infoB32
  have h0 : (w.alloc (.cells (byts b).toArray 27)).heap[w.heap.size]? = some (.cells (byts b).toArray 27 (0, 0)) := heap_alloc_last _ _
  have hm : (n : Int) % 64 = 0 := by omega
  have hk := (Sha.known_st hb).len
  have c0 := chg_one w (.cells (byts b).toArray 27)
  go_enter Tryd.func27, Tryd.ntmps27
  go_wp2_with (refine wpList_load_row rfl 27 (.tmp 2) rfl w.heap.size rfl 27 _ (0, 0) _ h0 Tryd.underlying27 rfl hi ?_)
  refine (known_any b _ hl hb).mono ?_
  rintro e w2 ⟨rfl, c2⟩
  have c02 := chg_then c0 c2
  clear h0 c0 c2 hm
  go_wp2_with (refine wpList_buildTo rfl 56 #[(0, .tmp 18), (2, .tmp 19)] rfl (some 20) rfl (hcells (Sha.known b) (List.replicate 64 0) n).toArray (built_resume' _ _ _ hk rfl rfl) ?_)
  refine bodyPost_ret (results_tmp2 rfl _ _ _) rfl ?_
  exact ⟨_, rfl, c02.size, eat_start ⟨heap_alloc_last _ _, hk, rfl⟩, chg_then c02 (chg_one _ _)⟩

theorem resume_no (b : List Nat) (n : Int) (w : World) (hn : n < 0 ∨ n % 64 ≠ 0 ∨ 1152921504606846976 < n) (hn1 : -9223372036854775808 ≤ n) (hn2 : n < 9223372036854775808) :
    Calls Tryd.prog 27 #[.agg (byts b).toArray, .int .i64 n] w fun e w' => e = .returned (.tuple #[.pointer none, .int .i64 7]) ∧ Chg (fun _ => False) w w' := by
  have c0 := chg_one w (.cells (byts b).toArray 27)
  by_cases h0 : n < 0
  · clear hn
    go_enter Tryd.func27, Tryd.ntmps27
    go_wp2
    refine bodyPost_ret (results_tmp2 rfl _ _ _) rfl ?_
    exact ⟨rfl, c0⟩
  · obtain ⟨m, rfl⟩ : ∃ m : Nat, n = (m : Int) := ⟨n.toNat, by omega⟩
    by_cases h1 : (m : Int) % 64 = 0
    · have h2 : 1152921504606846976 < (m : Int) := by omega
      clear hn
      go_enter Tryd.func27, Tryd.ntmps27
      go_wp2
      refine bodyPost_ret (results_tmp2 rfl _ _ _) rfl ?_
      exact ⟨rfl, c0⟩
    · clear hn
      go_enter Tryd.func27, Tryd.ntmps27
      go_wp2
      refine bodyPost_ret (results_tmp2 rfl _ _ _) rfl ?_
      exact ⟨rfl, c0⟩
end Go.Proofs.YtnedllhlmddmoabDoor
