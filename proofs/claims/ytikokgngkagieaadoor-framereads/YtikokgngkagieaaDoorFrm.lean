/- The small functions of the landed frame: sums, sizes told, kinds told; of no statement by themselves. -/
import Derived.Test.YtikokgngkagieaaDoorFrl
namespace Go.Proofs.YtikokgngkagieaaDoor
open Go.RowKit
set_option linter.unusedVariables false
set_option linter.unusedSimpArgs false
attribute [local go_sem] Oper.semAt_some
set_option maxHeartbeats 8000000 in
set_option maxRecDepth 100000 in
theorem sumOf_any (x : Addr) (n c : Nat) (nss : List (List Nat)) (w : World) (hT : Cq.Tab w) (hp : ∀ w', Chg (fun _ => False) w w' → Cq.Pieces w' x nss) (hl : nss.length = n) (hn : n ≤ 140737488355328) (hd : Rc.Dig nss.flatten) : Calls Tryd.prog 23 #[.slice (some x) n c] w fun e w' => e = .returned (ab (crc4 nss.flatten)) ∧ Chg (fun _ => False) w w' := by
  obtain ⟨N, hN⟩ : ∃ N, w.heap.size = N := ⟨_, rfl⟩
  obtain ⟨W0, hW0⟩ : ∃ W0, w.alloc (.cells (abA [0, 0, 0, 0]) 57) = W0 := ⟨_, rfl⟩
  have HW0 : Hid (W0.heap[N]? = some (.cells (abA [0, 0, 0, 0]) 57 (0, 0)) ∧ Chg (fun _ => False) w W0) := by
    rw [← hW0, ← hN]
    exact ⟨heap_alloc_last _ _, chg_one _ _⟩
  have HNN : Hid (w.heap.size = N) := hN
  have HS : Hid _ := Cq.sum32_any x n c nss W0 (hT.new HW0.out.2) (hp W0 HW0.out.2) hl hn
  have HM : Hid (Cq.Crc.more Cq.Crc.P32 32 0 nss.flatten < 4294967296) := more_dig hd
  have HB4 : Hid ((crc4 nss.flatten).length = 4) := crc4_len _
  have HL : Hid _ := low24f_any (Cq.Crc.more Cq.Crc.P32 32 0 nss.flatten) HM.out W0
  have HCR : Hid (Cq.Crc.low (Cq.Crc.more Cq.Crc.P32 32 0 nss.flatten) 4 = crc4 nss.flatten) := rfl
  rw [HCR.out] at HL
  clear hT hp hl hn hd HCR
  generalize Cq.Crc.more Cq.Crc.P32 32 0 nss.flatten = M at *
  generalize crc4 nss.flatten = CR at *
  go_enter Tryd.func23, Tryd.ntmps23
  go_upto_region 1 with fail
  try rw [hN]
  try rw [show w.alloc (.cells #[.int .u8 0, .int .u8 0, .int .u8 0, .int .u8 0] 57) = W0 from hW0]
  clear hW0 hN
  go_wp2_with fail
  refine Calls.mono HS.out ?_
  rintro z w1 ⟨rfl, rfl⟩
  go_wp2_with fail
  refine Calls.mono HL.out ?_
  rintro z w2 ⟨rfl, c2⟩
  have HC2 : Hid (Chg (fun _ => False) w w2) := chg_then HW0.out.2 c2
  have HB2 : Hid (w2.heap[N]? = some (.cells (abA [0, 0, 0, 0]) 57 (0, 0))) := blk_keep HW0.out.1 c2 (fun f => f)
  have hi4 : (Tryd.prog.info? 57).map (·.size) = some (abA CR).size := by rw [abA_size, HB4.out]; exact info4x
  clear c2 HS HL
  go_wp2_with (refine wpList_store_row rfl 57 (.tmp 2) (.tmp 5) rfl N (abA CR) rfl rfl 57 _ HB2.out hi4 (by rw [abA_size, abA_size, HB4.out]; rfl) (abA_one _) ?_)
  go_wp2
  refine bodyPost_ret (res16 rfl _ _ (run_loadVar_row _ N 57 57 _ (0, 0) _ (setRow_heap _ _ _ _ _ _ HB2.out) Tryd.underlying57 rfl hi4)) rfl ?_
  exact ⟨rfl, chg_setRowF HC2.out (by have := HNN.out; omega)⟩
/-- What a size is told as. -/
def told (n : Int) : List Nat := if n < 4 ∨ 17179869184 < n ∨ n % 4 ≠ 0 then [0, 0, 0, 0] else Cq.Crc.low (n.toNat / 4 - 1) 4
def mayTold (n : Int) : Bool := if n < 4 ∨ 17179869184 < n ∨ n % 4 ≠ 0 then false else true
set_option maxHeartbeats 8000000 in
set_option maxRecDepth 100000 in
theorem toldOf_any (n : Int) (w : World) (hI : I64 n) : Calls Tryd.prog 27 #[.int .i64 n] w fun e w' => e = .returned (.tuple #[ab (told n), .bool (mayTold n)]) ∧ Chg (fun _ => False) w w' := by
  obtain ⟨N, hN⟩ : ∃ N, w.heap.size = N := ⟨_, rfl⟩
  obtain ⟨W0, hW0⟩ : ∃ W0, w.alloc (.cells (abA [0, 0, 0, 0]) 57) = W0 := ⟨_, rfl⟩
  have HW0 : Hid (W0.heap[N]? = some (.cells (abA [0, 0, 0, 0]) 57 (0, 0)) ∧ Chg (fun _ => False) w W0) := by
    rw [← hW0, ← hN]
    exact ⟨heap_alloc_last _ _, chg_one _ _⟩
  have HNN : Hid (w.heap.size = N) := hN
  have hI1 := hI.1
  have hI2 := hI.2
  have hi0 : (Tryd.prog.info? 57).map (·.size) = some (abA [0, 0, 0, 0]).size := info4x
  by_cases hbad : n < 4 ∨ 17179869184 < n ∨ n % 4 ≠ 0
  · have HF : Hid (told n = [0, 0, 0, 0] ∧ mayTold n = false) := ⟨by unfold told; rw [if_pos hbad], by unfold mayTold; rw [if_pos hbad]⟩
    by_cases h1 : n < 4
    · have d1 : decide (n < 4) = true := decide_eq_true h1
      clear hbad hI
      go_enter Tryd.func27, Tryd.ntmps27
      go_upto_region 1 with fail
      try rw [hN]
      try rw [show w.alloc (.cells #[.int .u8 0, .int .u8 0, .int .u8 0, .int .u8 0] 57) = W0 from hW0]
      clear hW0 hN
      go_wp2_with (refine wpList_store_row rfl 57 (.tmp 2) (.tmp 15) rfl N (abA [0, 0, 0, 0]) rfl rfl 57 _ HW0.out.1 hi0 rfl (abA_one _) ?_)
      go_wp2
      refine bodyPost_ret (res_ab rfl _ _ N 57 (abA [0, 0, 0, 0]) (0, 0) _ (setRow_heap _ _ _ _ _ _ HW0.out.1) Tryd.underlying57 rfl hi0) rfl ?_
      exact ⟨by rw [HF.out.1, HF.out.2]; rfl, chg_setRowF HW0.out.2 (by have := HNN.out; omega)⟩
    · have d1 : decide (n < 4) = false := decide_eq_false h1
      by_cases h2 : 17179869184 < n
      · have d2 : decide (17179869184 < n) = true := decide_eq_true h2
        clear hbad hI
        go_enter Tryd.func27, Tryd.ntmps27
        go_upto_region 1 with fail
        try rw [hN]
        try rw [show w.alloc (.cells #[.int .u8 0, .int .u8 0, .int .u8 0, .int .u8 0] 57) = W0 from hW0]
        clear hW0 hN
        go_wp2_with (refine wpList_store_row rfl 57 (.tmp 2) (.tmp 15) rfl N (abA [0, 0, 0, 0]) rfl rfl 57 _ HW0.out.1 hi0 rfl (abA_one _) ?_)
        go_wp2
        refine bodyPost_ret (res_ab rfl _ _ N 57 (abA [0, 0, 0, 0]) (0, 0) _ (setRow_heap _ _ _ _ _ _ HW0.out.1) Tryd.underlying57 rfl hi0) rfl ?_
        exact ⟨by rw [HF.out.1, HF.out.2]; rfl, chg_setRowF HW0.out.2 (by have := HNN.out; omega)⟩
      · have d2 : decide (17179869184 < n) = false := decide_eq_false h2
        obtain ⟨m, rfl⟩ : ∃ m : Nat, n = (m : Int) := ⟨n.toNat, by omega⟩
        have h3 : m % 4 ≠ 0 := by omega
        have hm0 : ¬ (m : Int) % 4 = 0 := by omega
        have e3 : ((m : Int) % 4 == 0) = false := by rw [beq_eq_false_iff_ne]; exact hm0
        clear hbad hI
        go_enter Tryd.func27, Tryd.ntmps27
        go_upto_region 1 with fail
        try rw [hN]
        try rw [show w.alloc (.cells #[.int .u8 0, .int .u8 0, .int .u8 0, .int .u8 0] 57) = W0 from hW0]
        clear hW0 hN
        go_wp2_with (refine wpList_store_row rfl 57 (.tmp 2) (.tmp 15) rfl N (abA [0, 0, 0, 0]) rfl rfl 57 _ HW0.out.1 hi0 rfl (abA_one _) ?_)
        go_wp2
        refine bodyPost_ret (res_ab rfl _ _ N 57 (abA [0, 0, 0, 0]) (0, 0) _ (setRow_heap _ _ _ _ _ _ HW0.out.1) Tryd.underlying57 rfl hi0) rfl ?_
        exact ⟨by rw [HF.out.1, HF.out.2]; rfl, chg_setRowF HW0.out.2 (by have := HNN.out; omega)⟩
  · have HF : Hid (told n = Cq.Crc.low (n.toNat / 4 - 1) 4 ∧ mayTold n = true) := ⟨by unfold told; rw [if_neg hbad], by unfold mayTold; rw [if_neg hbad]⟩
    obtain ⟨K, rfl⟩ : ∃ K : Nat, n = (K : Int) := ⟨n.toNat, by omega⟩
    have h1 : 4 ≤ K := by omega
    have h2 : K ≤ 17179869184 := by omega
    have h3 : K % 4 = 0 := by omega
    obtain ⟨Q, hQ⟩ : ∃ Q, K / 4 = Q := ⟨_, rfl⟩
    obtain ⟨m, hV⟩ : ∃ V, Q - 1 = V := ⟨_, rfl⟩
    have hq : (K : Int) / 4 = (Q : Int) := by omega
    have hqt : (K : Int).tdiv 4 = (Q : Int) := by rw [Int.tdiv_eq_ediv_of_nonneg (by omega)]; exact hq
    have hv : (Q : Int) - 1 = (m : Int) := by omega
    have hQi : 1 ≤ (Q : Int) ∧ (Q : Int) ≤ 4294967296 := by omega
    have hVi : (m : Int) < 4294967296 := by omega
    have hNi : (K : Int) ≤ 17179869184 := by omega
    have dN4 : decide ((K : Int) < 4) = false := decide_eq_false (by omega)
    have dN4' : decide (K < 4) = false := decide_eq_false (by omega)
    have dNB : decide ((17179869184 : Int) < (K : Int)) = false := decide_eq_false (by omega)
    have dNB' : decide (17179869184 < K) = false := decide_eq_false (by omega)
    have m4 : (K : Int) % 4 = 0 := by omega
    have m4t : (K : Int).tmod 4 = 0 := by rw [Int.tmod_eq_emod_of_nonneg (by omega)]; exact m4
    have hmb : m < 4294967296 := by omega
    rw [show ((K : Int).toNat / 4 - 1) = m by rw [Int.toNat_natCast, hQ, hV]] at HF
    have HL : Hid _ := low24f_any m hmb W0
    have HB4 : Hid ((Cq.Crc.low m 4).length = 4) := low_len _ _
    clear hbad hI hQ hV hmb
    go_enter Tryd.func27, Tryd.ntmps27
    go_upto_region 1 with fail
    try rw [hN]
    try rw [show w.alloc (.cells #[.int .u8 0, .int .u8 0, .int .u8 0, .int .u8 0] 57) = W0 from hW0]
    clear hW0 hN
    go_wp2_with fail
    refine Calls.mono HL.out ?_
    rintro z w2 ⟨rfl, c2⟩
    have HC2 : Hid (Chg (fun _ => False) w w2) := chg_then HW0.out.2 c2
    have HB2 : Hid (w2.heap[N]? = some (.cells (abA [0, 0, 0, 0]) 57 (0, 0))) := blk_keep HW0.out.1 c2 (fun f => f)
    have hi4 : (Tryd.prog.info? 57).map (·.size) = some (abA (Cq.Crc.low m 4)).size := by rw [abA_size, HB4.out]; exact info4x
    clear c2 HL
    go_wp2_with (refine wpList_store_row rfl 57 (.tmp 2) (.tmp 20) rfl N (abA (Cq.Crc.low m 4)) rfl rfl 57 _ HB2.out hi4 (by rw [abA_size, abA_size, HB4.out]; rfl) (abA_one _) ?_)
    go_wp2
    refine bodyPost_ret (res_ab rfl _ _ N 57 _ (0, 0) _ (setRow_heap _ _ _ _ _ _ HB2.out) Tryd.underlying57 rfl hi4) rfl ?_
    exact ⟨by rw [HF.out.1, HF.out.2]; rfl, chg_setRowF HC2.out (by have := HNN.out; omega)⟩
end Go.Proofs.YtikokgngkagieaaDoor
