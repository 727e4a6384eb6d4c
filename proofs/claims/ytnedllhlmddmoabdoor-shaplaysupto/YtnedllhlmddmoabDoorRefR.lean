/- The document's own hashes: the contract of Resume; of no statement by itself. -/
import Derived.Test.YtnedllhlmddmoabDoorRefL
namespace Go.Proofs.YtnedllhlmddmoabDoor
open Go.RowKit
set_option linter.unusedVariables false

theorem refresume_no (b : List Nat) (n : Int) (w : World) (hn : n < 0 ∨ n % 64 ≠ 0 ∨ 1152921504606846976 < n) (hn1 : -9223372036854775808 ≤ n) (hn2 : n < 9223372036854775808) :
    Calls Tryd.prog 28 #[.agg (byts b).toArray, .int .i64 n] w fun e w' => e = .returned (.tuple #[.pointer none, .int .i64 7]) ∧ Chg (fun _ => False) w w' := by
  have c0 := chg_one w (.cells (byts b).toArray 27)
  by_cases h0 : n < 0
  · clear hn
    go_enter Tryd.func28, Tryd.ntmps28
    go_wp2
    refine bodyPost_ret (results_tmp2 rfl _ _ _) rfl ?_
    exact ⟨rfl, c0⟩
  · obtain ⟨m, rfl⟩ : ∃ m : Nat, n = (m : Int) := ⟨n.toNat, by omega⟩
    by_cases h1 : (m : Int) % 64 = 0
    · have h2 : 1152921504606846976 < (m : Int) := by omega
      clear hn
      go_enter Tryd.func28, Tryd.ntmps28
      go_wp2
      refine bodyPost_ret (results_tmp2 rfl _ _ _) rfl ?_
      exact ⟨rfl, c0⟩
    · clear hn
      go_enter Tryd.func28, Tryd.ntmps28
      go_wp2
      refine bodyPost_ret (results_tmp2 rfl _ _ _) rfl ?_
      exact ⟨rfl, c0⟩

theorem kn_add (x v : Nat) (hx : x < 4294967296) (hv : v < 256) : x * 256 % 4294967296 ||| v = x * 256 % 4294967296 + v := by
  have e : x * 256 % 4294967296 = 2 ^ 8 * (x % 16777216) := by omega
  rw [e, Nat.two_pow_add_eq_or_of_lt (i := 8) (b := v) (by omega) (x % 16777216)]

theorem rcells_cell {w : World} {g : Nat} {s : List Nat} {n : Nat} {v : Value} (h : w.heap[g]? = some (.cells (rcells s n v).toArray 47 (0, 0))) (q : Nat) (hq : q < s.length) : w.cell? ⟨g, q, none⟩ = some (.int .u32 (s.getD q 0 : Nat)) := by
  rw [cell_of_row _ g q _ _ _ h, List.getElem?_toArray, rcells, List.getElem?_append_left (by rw [wds_len]; exact hq)]
  exact wds_at s q hq

theorem rcells_set {s : List Nat} {n : Nat} {v : Value} (q x : Nat) (hq : q < s.length) : (rcells s n v).set q (.int .u32 (x : Nat)) = rcells (s.set q x) n v := by
  rw [rcells, rcells, List.set_append_left _ _ (by rw [wds_len]; exact hq), wds_set]

theorem built_res (n : Nat) : Tryd.prog.built 47 [(1, .int .i64 (n : Int))] = some (rcells (fill [] 8) n (.slice none 0 0)).toArray := by kernel_rfl
theorem built_res' (n : Nat) (a : Act) (h : a.eval (.tmp 19) = .int .i64 (n : Int)) : Tryd.prog.built 47 ((#[((1 : Nat), Operand.tmp 19)].map fun (i, x) => (i, a.eval x)).toList) = some (rcells (fill [] 8) n (.slice none 0 0)).toArray := by
  have e : ((#[((1 : Nat), Operand.tmp 19)].map fun (i, x) => (i, a.eval x)).toList) = [(1, .int .i64 (n : Int))] := by simp [h]
  rw [e]
  exact built_res n

set_option maxHeartbeats 4000000 in
set_option maxRecDepth 100000 in
theorem refresume_yes (b : List Nat) (n : Nat) (wa : World) (hl : b.length = 32) (hb : ∀ x ∈ b, x < 256) (hn : n % 64 = 0) (hn2 : n ≤ 1152921504606846976) :
    Calls Tryd.prog 28 #[.agg (byts b).toArray, .int .i64 n] wa fun e w' => ∃ g, e = .returned (.tuple #[.pointer (some ⟨g, 0, none⟩), .int .i64 0]) ∧ wa.heap.size ≤ g ∧ w'.heap[g]? = some (.cells (rcells (Sha.known b) n (.slice none 0 0)).toArray 47 (0, 0)) ∧ Chg (fun _ => False) wa w' := by
  have hm : (n : Int) % 64 = 0 := by omega
  have c0 := chg_one wa (.cells (byts b).toArray 27)
  have h0 : (wa.alloc (.cells (byts b).toArray 27)).heap[wa.heap.size]? = some (.cells (byts b).toArray 27 (0, 0)) := heap_alloc_last _ _
  have HW : Hid ((wa.alloc (.cells (byts b).toArray 27)).heap.size = wa.heap.size + 1) := by show _ = _; simp
  have HB : Hid (∀ x ∈ b, x < 256) := hb
  clear hb
  go_enter Tryd.func28, Tryd.ntmps28
  go_wp2_with (refine wpList_buildTo rfl 47 #[(1, .tmp 19)] rfl (some 20) rfl (rcells (fill [] 8) n (.slice none 0 0)).toArray (built_res' n _ rfl) ?_)
  generalize wa.alloc (.cells (byts b).toArray 27) = w1 at *
  have c1 := chg_one w1 (.cells (rcells (fill [] 8) n (.slice none 0 0)).toArray 47)
  have hg0 : (w1.alloc (.cells (rcells (fill [] 8) n (.slice none 0 0)).toArray 47)).heap[w1.heap.size]? = some (.cells (rcells (kn b 0) n (.slice none 0 0)).toArray 47 (0, 0)) := heap_alloc_last _ _
  have h1 := blk_keep h0 c1 (fun f => f)
  have C1 := chg_then c0 c1
  clear h0 c0 c1
  generalize w1.alloc (.cells (rcells (fill [] 8) n (.slice none 0 0)).toArray 47) = w2 at *
  rw [HW.out] at hg0
  clear HW
  generalize hgg : wa.heap.size + 1 = g at *
  have hgw : wa.heap.size < g := by omega
  clear hgg
  generalize decide ((n : Int) < 0) = d0 at *
  go_loopw [7] (fun i wr => ∃ k : Nat, k ≤ 32 ∧ i = .int .i64 k ∧ wr.heap[g]? = some (.cells (rcells (kn b k) n (.slice none 0 0)).toArray 47 (0, 0)) ∧ Hid (Chg (fun z => z = g) w2 wr)) (fun i _ => 32 - (intOf i).toNat)
  case atStart => exact ⟨0, by omega, rfl, hg0, Chg.refl _ _⟩
  case round =>
    clear hg0
    obtain ⟨k, hk, rfl, hS, HC⟩ := hrel
    by_cases hlt : k < 32
    · have hq8 : k / 4 < 8 := by omega
      have cx := rcells_cell hS (k / 4) (by rw [kn_len]; exact hq8)
      have lx := (kn_wds HB.out k).getD (k / 4)
      have cb := byts_cell (blk_keep h1 HC.out (by omega)) k (by omega)
      have lb := Sha.byte_getD HB.out k
      have HSet : Hid (∀ w', Chg (fun _ => False) wr w' → (w'.setCell ⟨g, k / 4, none⟩ (.int .u32 ((kn b k).getD (k / 4) 0 * 256 % 4294967296 + b.getD k 0 : Nat))).heap[g]? = some (.cells (rcells (kn b (k + 1)) n (.slice none 0 0)).toArray 47 (0, 0))) := by
        intro w' hc
        rw [blk_setk (blk_keep hS hc (fun f => f)), rcells_set _ _ (by rw [kn_len]; exact hq8), ← kn_add _ _ lx lb]
        rfl
      have HFr : Hid (∀ w', Chg (fun _ => False) wr w' → w'.frozen? ⟨g, k / 4, none⟩ = false) := fun w' hc => by simp [World.frozen?, blk_keep hS hc (fun f => f)]
      have hmul : IntKind.u32.wrap ((256 : Int) * ((kn b k).getD (k / 4) 0 : Nat)) = (((kn b k).getD (k / 4) 0 * 256 % 4294967296 : Nat) : Int) := by rw [Int.mul_comm]; exact shl32 _ 256
      generalize (kn b k).getD (k / 4) 0 = x at *
      generalize b.getD k 0 = v at *
      have hym : x * 256 % 4294967296 + 256 ≤ 4294967296 := by omega
      have hml : (256 : Int) * (x : Int) % 4294967296 = ((x * 256 % 4294967296 : Nat) : Int) := by omega
      generalize x * 256 % 4294967296 = y at *
      have hadd : (y : Int) + (v : Int) = ((y + v : Nat) : Int) := by omega
      have lz : y + v < 4294967296 := by omega
      generalize y + v = z at *
      have wz : IntKind.u32.wrap (z : Int) = (z : Int) := by rw [wrap32]; omega
      have wv : IntKind.u32.wrap (v : Int) = (v : Int) := by rw [wrap32]; omega
      have dq : (k : Int) / 4 = ((k / 4 : Nat) : Int) := by omega
      have dqt : (k : Int).tdiv 4 = ((k / 4 : Nat) : Int) := by rw [Int.tdiv_eq_ediv_of_nonneg (by omega)]; omega
      generalize k / 4 = q at *
      have wq : IntKind.i64.wrap (q : Int) = (q : Int) := by simp [IntKind.wrap, IntKind.signed, IntKind.bits]; omega
      have hq8i : (q : Int) < 8 := by omega
      have hk32 : (k : Int) < 32 := by omega
      clear hS
      go_wp2_with fail
      generalize decide ((k : Int) < 32) = dk at *
      refine wp_region_last (mk := fun u => #[_, _, _, _, _, _, _, _, _, _, _, _, _, _, _, _, _, _, _, _, _, _, _, _, _, _, u 26, u 27, u 28, u 29, u 30, u 31, u 32, u 33, u 34, u 35, u 36, u 37, u 38, u 39, u 40, u 41, u 42, u 43, u 44, _]) (F := fun slot vv ww => (look [(26, .val (.pointer (some ⟨g, 0, none⟩))), (27, .val (.int .i64 (k : Nat))), (28, .val (.int .i64 (q : Nat))), (29, .val (.pointer (some ⟨g, 0, none⟩))), (30, .val (.int .i64 (k : Nat))), (31, .val (.int .i64 (q : Nat))), (32, .val (.pointer (some ⟨g, 0, none⟩))), (33, .val (.pointer (some ⟨g, 0, none⟩))), (34, .val (.pointer (some ⟨g, q, none⟩))), (35, .val (.int .u32 (x : Nat))), (36, .val (.int .u32 (y : Nat))), (37, .val (.int .i64 (k : Nat))), (38, .val (.pointer (some ⟨wa.heap.size, k, none⟩))), (39, .val (.int .u8 (v : Nat))), (40, .val (.int .u32 (v : Nat))), (41, .val (.int .u32 (z : Nat))), (42, .val (.pointer (some ⟨g, 0, none⟩))), (43, .val (.pointer (some ⟨g, 0, none⟩))), (44, .val (.pointer (some ⟨g, q, none⟩)))] slot).holds vv ww) (fun t => if t = 26 then u26 else if t = 27 then u27 else if t = 28 then u28 else if t = 29 then u29 else if t = 30 then u30 else if t = 31 then u31 else if t = 32 then u32 else if t = 33 then u33 else if t = 34 then u34 else if t = 35 then u35 else if t = 36 then u36 else if t = 37 then u37 else if t = 38 then u38 else if t = 39 then u39 else if t = 40 then u40 else if t = 41 then u41 else if t = 42 then u42 else if t = 43 then u43 else if t = 44 then u44 else undef) rfl (by kernel_rfl) 19 _ rfl rfl (by kernel_rfl) ?_ (fun _ v w w' hc h => Fact.stays _ v w w' hc h) ?_ ?_
      · repeat (refine ⟨⟨_, rfl, fun _ _ => rfl⟩, ?_⟩)
        exact trivial
      · refine ⟨?_, ?_, ?_, ?_, ?_, ?_, ?_, ?_, ?_, ?_, ?_, ?_, ?_, ?_, ?_, ?_, ?_, ?_, ?_, trivial⟩
        · intro u w hc hd K hK -- 26
          clear hd
          go_simp
          exact hK.out (.pointer (some ⟨g, 0, none⟩)) w (Chg.refl _ _) rfl
        · intro u w hc hd K hK -- 27
          clear hd
          go_simp
          exact hK.out (.int .i64 (k : Nat)) w (Chg.refl _ _) rfl
        · intro u w hc hd K hK -- 28
          have h27 : (Fact.val (.int .i64 (k : Nat))).holds (u 27) w := hd.get 1 (by kernel_rfl)
          simp only [Fact.holds] at h27
          clear hd
          simp only [h27] at hK
          go_simp
          exact hK.out (.int .i64 (q : Nat)) w (Chg.refl _ _) rfl
        · intro u w hc hd K hK -- 29
          clear hd
          go_simp
          exact hK.out (.pointer (some ⟨g, 0, none⟩)) w (Chg.refl _ _) rfl
        · intro u w hc hd K hK -- 30
          clear hd
          go_simp
          exact hK.out (.int .i64 (k : Nat)) w (Chg.refl _ _) rfl
        · intro u w hc hd K hK -- 31
          have h30 : (Fact.val (.int .i64 (k : Nat))).holds (u 30) w := hd.get 4 (by kernel_rfl)
          simp only [Fact.holds] at h30
          clear hd
          simp only [h30] at hK
          go_simp
          exact hK.out (.int .i64 (q : Nat)) w (Chg.refl _ _) rfl
        · intro u w hc hd K hK -- 32
          have h29 : (Fact.val (.pointer (some ⟨g, 0, none⟩))).holds (u 29) w := hd.get 3 (by kernel_rfl)
          simp only [Fact.holds] at h29
          clear hd
          simp only [h29] at hK
          go_simp
          exact hK.out (.pointer (some ⟨g, 0, none⟩)) w (Chg.refl _ _) rfl
        · intro u w hc hd K hK -- 33
          have h32 : (Fact.val (.pointer (some ⟨g, 0, none⟩))).holds (u 32) w := hd.get 6 (by kernel_rfl)
          simp only [Fact.holds] at h32
          clear hd
          simp only [h32] at hK
          go_simp
          exact hK.out (.pointer (some ⟨g, 0, none⟩)) w (Chg.refl _ _) rfl
        · intro u w hc hd K hK -- 34
          have h33 : (Fact.val (.pointer (some ⟨g, 0, none⟩))).holds (u 33) w := hd.get 7 (by kernel_rfl)
          simp only [Fact.holds] at h33
          have h31 : (Fact.val (.int .i64 (q : Nat))).holds (u 31) w := hd.get 5 (by kernel_rfl)
          simp only [Fact.holds] at h31
          clear hd
          simp only [h31, h33] at hK
          go_simp
          exact hK.out (.pointer (some ⟨g, q, none⟩)) w (Chg.refl _ _) rfl
        · intro u w hc hd K hK -- 35
          have h34 : (Fact.val (.pointer (some ⟨g, q, none⟩))).holds (u 34) w := hd.get 8 (by kernel_rfl)
          simp only [Fact.holds] at h34
          clear hd
          simp only [h34] at hK
          have hcell := cell_chg cx hc
          go_simp
          exact hK.out _ _ (Chg.refl _ _) rfl
        · intro u w hc hd K hK -- 36
          have h35 : (Fact.val (.int .u32 (x : Nat))).holds (u 35) w := hd.get 9 (by kernel_rfl)
          simp only [Fact.holds] at h35
          clear hd
          simp only [h35] at hK
          go_simp
          exact hK.out (.int .u32 (y : Nat)) w (Chg.refl _ _) rfl
        · intro u w hc hd K hK -- 37
          clear hd
          go_simp
          exact hK.out (.int .i64 (k : Nat)) w (Chg.refl _ _) rfl
        · intro u w hc hd K hK -- 38
          have h37 : (Fact.val (.int .i64 (k : Nat))).holds (u 37) w := hd.get 11 (by kernel_rfl)
          simp only [Fact.holds] at h37
          clear hd
          simp only [h37] at hK
          go_simp
          exact hK.out (.pointer (some ⟨wa.heap.size, k, none⟩)) w (Chg.refl _ _) rfl
        · intro u w hc hd K hK -- 39
          have h38 : (Fact.val (.pointer (some ⟨wa.heap.size, k, none⟩))).holds (u 38) w := hd.get 12 (by kernel_rfl)
          simp only [Fact.holds] at h38
          clear hd
          simp only [h38] at hK
          have hcell := cell_chg cb hc
          go_simp
          exact hK.out _ _ (Chg.refl _ _) rfl
        · intro u w hc hd K hK -- 40
          have h39 : (Fact.val (.int .u8 (v : Nat))).holds (u 39) w := hd.get 13 (by kernel_rfl)
          simp only [Fact.holds] at h39
          clear hd
          simp only [h39] at hK
          go_simp
          exact hK.out (.int .u32 (v : Nat)) w (Chg.refl _ _) rfl
        · intro u w hc hd K hK -- 41
          have h36 : (Fact.val (.int .u32 (y : Nat))).holds (u 36) w := hd.get 10 (by kernel_rfl)
          simp only [Fact.holds] at h36
          have h40 : (Fact.val (.int .u32 (v : Nat))).holds (u 40) w := hd.get 14 (by kernel_rfl)
          simp only [Fact.holds] at h40
          clear hd
          simp only [h36, h40] at hK
          go_simp
          exact hK.out (.int .u32 (z : Nat)) w (Chg.refl _ _) rfl
        · intro u w hc hd K hK -- 42
          have h26 : (Fact.val (.pointer (some ⟨g, 0, none⟩))).holds (u 26) w := hd.get 0 (by kernel_rfl)
          simp only [Fact.holds] at h26
          clear hd
          simp only [h26] at hK
          go_simp
          exact hK.out (.pointer (some ⟨g, 0, none⟩)) w (Chg.refl _ _) rfl
        · intro u w hc hd K hK -- 43
          have h42 : (Fact.val (.pointer (some ⟨g, 0, none⟩))).holds (u 42) w := hd.get 16 (by kernel_rfl)
          simp only [Fact.holds] at h42
          clear hd
          simp only [h42] at hK
          go_simp
          exact hK.out (.pointer (some ⟨g, 0, none⟩)) w (Chg.refl _ _) rfl
        · intro u w hc hd K hK -- 44
          have h43 : (Fact.val (.pointer (some ⟨g, 0, none⟩))).holds (u 43) w := hd.get 17 (by kernel_rfl)
          simp only [Fact.holds] at h43
          have h28 : (Fact.val (.int .i64 (q : Nat))).holds (u 28) w := hd.get 2 (by kernel_rfl)
          simp only [Fact.holds] at h28
          clear hd
          simp only [h28, h43] at hK
          go_simp
          exact hK.out (.pointer (some ⟨g, q, none⟩)) w (Chg.refl _ _) rfl
      · intro u w hc hA K hK
        have a41 : u 41 = _ := hA.at 41 (by kernel_rfl)
        have a44 : u 44 = _ := hA.at 44 (by kernel_rfl)
        clear hA
        have HB1 : Hid _ := HSet.out w hc
        have HC1 : Hid (Chg (fun z => z = g) w2 (w.setCell ⟨g, q, none⟩ (.int .u32 (z : Nat)))) := (HC.out.trans (T := fun _ => False) hc (fun _ f => f.elim)).setCell (p := ⟨g, q, none⟩) (.inl rfl) _
        have cxw := cell_chg cx hc
        have fxw := HFr.out w hc
        clear HSet HFr HC cx cb
        simp only [a41, a44]
        go_simp
        refine hK.out _ _ ?_
        generalize w.setCell ⟨g, q, none⟩ (.int .u32 (z : Nat)) = w8 at *
        clear cxw fxw hc a41 a44 hK
        go_simp
        go_wp2
        go_roundw
        case rel => exact ⟨k + 1, by omega, by go_num, HB1.out, HC1⟩
        case measure => simp [intOf]; omega
    · rw [show k = 32 by omega, kn_all HB.out] at hS
      have HS : Hid (wr.heap[g]? = some (.cells (rcells (Sha.known b) n (.slice none 0 0)).toArray 47 (0, 0))) := hS
      have HCW : Hid (Chg (fun _ => False) wa wr) := C1.trans HC.out (fun _ e => .inr (by omega))
      clear hS h1 C1 HC
      go_wp2
      refine bodyPost_ret (results_tmp2 rfl _ _ _) rfl ?_
      exact ⟨g, rfl, by omega, HS.out, HCW.out⟩
end Go.Proofs.YtnedllhlmddmoabDoor
