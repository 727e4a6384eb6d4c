/- The document's own hashes: the contracts of Len and Fork; of no statement by themselves. -/
import Derived.Test.YtnedllhlmddmoabDoorRefH
import Derived.Test.YtnedllhlmddmoabDoorStr
import Derived.Test.YtnedllhlmddmoabDoorHash
namespace Go.Proofs.YtnedllhlmddmoabDoor
open Go.RowKit
set_option linter.unusedVariables false

theorem rhlen_any (a : Nat) (s : List Nat) (n : Nat) (v : Value) (bs : List Nat) (w : World) (hR : Rh w a s n v bs) (hN : n + bs.length < 9223372036854775808) :
    Calls Tryd.prog 17 #[.pointer (some ⟨a, 0, none⟩)] w fun e w' => e = .returned (.int .i64 ((n + bs.length : Nat) : Int)) ∧ Chg (fun _ => False) w w' := by
  have c8 := hR.ahead
  have c9 := hR.list
  obtain ⟨ad, c, rfl, hrow⟩ := hR.row
  obtain ⟨m, HM⟩ : ∃ m, Hid (bs.length = m) := ⟨_, rfl⟩
  obtain ⟨N, HN⟩ : ∃ N, Hid (n + bs.length = N) := ⟨_, rfl⟩
  rw [HN.out] at hN
  rw [HM.out] at c9
  have hadd : (n : Int) + (m : Int) = (N : Int) := by have h1 := HN.out; have h2 := HM.out; omega
  have hw : IntKind.i64.wrap (N : Int) = (N : Int) := by simp [IntKind.wrap, IntKind.signed, IntKind.bits]; omega
  clear hR hrow
  go_enter Tryd.func17, Tryd.ntmps17
  go_wp2_with fail
  go_quiet (fail)
  go_wp2
  go_ret
  exact ⟨by rw [HN.out]; rfl, ⟨rfl, rfl, rfl, Nat.le_refl _, fun _ _ _ => rfl⟩⟩

theorem built_fork8 (a b c d e f g h n : Nat) (ad : Option Addr) (m cap : Nat) : Tryd.prog.built 47 [(0, .agg (wds [a, b, c, d, e, f, g, h]).toArray), (1, .int .i64 (n : Int)), (2, .slice ad m cap)] = some (rcells [a, b, c, d, e, f, g, h] n (.slice ad m cap)).toArray := by kernel_rfl
theorem built_fork (s : List Nat) (hs : s.length = 8) (n : Nat) (ad : Option Addr) (m cap : Nat) : Tryd.prog.built 47 [(0, .agg (wds s).toArray), (1, .int .i64 (n : Int)), (2, .slice ad m cap)] = some (rcells s n (.slice ad m cap)).toArray := by
  match s, hs with
  | [a, b, c, d, e, f, g, h], _ => exact built_fork8 a b c d e f g h n ad m cap
theorem built_fork' (s : List Nat) (hs : s.length = 8) (n : Nat) (ad : Option Addr) (m cap : Nat) (a : Act) (h1 : a.eval (.tmp 13) = .agg (wds s).toArray) (h2 : a.eval (.tmp 17) = .int .i64 (n : Int)) (h3 : a.eval (.tmp 18) = .slice ad m cap) :
    Tryd.prog.built 47 ((#[((0 : Nat), Operand.tmp 13), ((1 : Nat), Operand.tmp 17), ((2 : Nat), Operand.tmp 18)].map fun (i, x) => (i, a.eval x)).toList) = some (rcells s n (.slice ad m cap)).toArray := by
  have e : ((#[((0 : Nat), Operand.tmp 13), ((1 : Nat), Operand.tmp 17), ((2 : Nat), Operand.tmp 18)].map fun (i, x) => (i, a.eval x)).toList) = [(0, .agg (wds s).toArray), (1, .int .i64 (n : Int)), (2, .slice ad m cap)] := by simp [h1, h2, h3]
  rw [e]
  exact built_fork s hs n ad m cap

theorem wp_build_to {o : Oper} {a : Act} {w : World} {K : Act → World → Prop} {Q : Exit → Act → World → Prop} (t : TypeId) (parts : Array (Nat × Operand)) (ho : o.op = .build t parts) (cells : Array Value)
    (hf : Tryd.prog.built t (parts.map fun (i, x) => (i, a.eval x)).toList = some cells) (h : K (a.put o.dst (.agg cells)) w) : o.wp Tryd.prog a w K Q := by
  refine wp_build t parts ho (by rw [hf]; rfl) ?_
  rw [hf]
  exact h

set_option maxHeartbeats 4000000 in
set_option maxRecDepth 100000 in
theorem rhfork_any (a : Nat) (s : List Nat) (n : Nat) (v : Value) (bs : List Nat) (wa : World) (hR : Rh wa a s n v bs) (hN2 : bs.length ≤ 140737488351232) :
    Calls Tryd.prog 26 #[.pointer (some ⟨a, 0, none⟩)] wa fun e wa' => ∃ g v', e = .returned (.pointer (some ⟨g, 0, none⟩)) ∧ wa.heap.size ≤ g ∧ wa'.heap[g]? = some (.cells (rcells s n v').toArray 47 (0, 0)) ∧ wa'.ownsRow wa.heap.size 5 1 v' bs.length (cells8 (up bs)) ∧ Chg (fun _ => False) wa wa' := by
  obtain ⟨i0, hi, hz0, hz1, hz2⟩ := info_parts info5
  have hlist := hR.list
  obtain ⟨ad, c, rfl, hrow⟩ := hR.row
  obtain ⟨lb, HLB⟩ : ∃ lb, Hid (bs.length = lb) := ⟨_, rfl⟩
  rw [HLB.out] at hR hlist hrow hN2 ⊢
  have hnil := World.ownsRow_nil wa wa.heap.size 5 1
  go_enter Tryd.func26, Tryd.ntmps26
  go_wp2_with (at_builtin; refine wpList_append_moved rfl _ _ 24 rfl wa.heap.size 5 i0 (.int .u8 0) 1 1 Tryd.underlying24 hi hz0 hz1 hz2 rfl (by decide) _ 0 [] rfl ad lb c rfl (cells8 (up bs)) hnil hrow.src (oneCells _) (by unfold maxLen; omega) (by omega) (Nat.le_refl _) ?_)
  intro v2 w2 ho2 hg2 _
  have c2 : Chg (fun _ => False) wa w2 := (Chg.refl _ wa).grown hg2 (fun k e => by cases e)
  have HO2 : Hid (w2.ownsRow wa.heap.size 5 1 v2 lb (cells8 (up bs))) := by
    show World.ownsRow _ _ _ _ _ _ _
    simpa using ho2
  obtain ⟨ba, bc, rfl⟩ := own_form HO2.out
  have hR2 := hR.new c2
  have hs8 := hR.s8
  have hi8 : (Tryd.prog.info? 45).map (·.size) = some (wds s).length := by rw [wds_len, hs8]; exact infoA8
  have ha2 := hR2.ahead
  have HC2 : Hid (Chg (fun _ => False) wa w2) := c2
  have HS2 : Hid (wa.heap.size ≤ w2.heap.size) := c2.size
  clear hnil hg2 hR hlist hrow c2 ho2
  go_wp2_with fail
  refine wp_region_free (mk := fun u => #[_, _, u 2, _, _, _, _, _, _, _, u 10, u 11, u 12, u 13, u 14, u 15, u 16, u 17, u 18, u 19, u 20]) (F := fun slot vv ww => (look [(10, .val (.pointer (some ⟨a, 0, none⟩))), (11, .val (.pointer (some ⟨a, 0, none⟩))), (12, .val (.pointer (some ⟨a, 0, none⟩))), (13, .val (.agg (wds s).toArray)), (14, .val (.pointer (some ⟨a, 0, none⟩))), (15, .val (.pointer (some ⟨a, 0, none⟩))), (16, .val (.pointer (some ⟨a, 8, none⟩))), (17, .val (.int .i64 (n : Nat))), (18, .val (.slice ba lb bc)), (19, .val (.agg (rcells s n (.slice ba lb bc)).toArray)), (20, .blk wa.heap.size (rcells s n (.slice ba lb bc)) 47), (2, .blk wa.heap.size (rcells s n (.slice ba lb bc)) 47)] slot).holds vv ww) (fun t => if t = 2 then .pointer none else undef) rfl (by kernel_rfl) (by kernel_rfl) ?_ (fun _ v w w' hc h => Fact.stays _ v w w' hc h) ?_ ?_
  · repeat (refine ⟨⟨_, rfl, fun _ _ => rfl⟩, ?_⟩)
    exact trivial
  · refine ⟨?_, ?_, ?_, ?_, ?_, ?_, ?_, ?_, ?_, ?_, ?_, ?_, trivial⟩
    · intro u w hc hd K hK -- 10
      clear hd
      go_simp
      exact hK.out (.pointer (some ⟨a, 0, none⟩)) w (Chg.refl _ _) rfl
    · intro u w hc hd K hK -- 11
      have h10 : (Fact.val (.pointer (some ⟨a, 0, none⟩))).holds (u 10) w := hd.get 0 (by kernel_rfl)
      simp only [Fact.holds] at h10
      clear hd
      simp only [h10] at hK
      go_simp
      exact hK.out (.pointer (some ⟨a, 0, none⟩)) w (Chg.refl _ _) rfl
    · intro u w hc hd K hK -- 12
      have h11 : (Fact.val (.pointer (some ⟨a, 0, none⟩))).holds (u 11) w := hd.get 1 (by kernel_rfl)
      simp only [Fact.holds] at h11
      clear hd
      simp only [h11] at hK
      go_simp
      exact hK.out (.pointer (some ⟨a, 0, none⟩)) w (Chg.refl _ _) rfl
    · intro u w hc hd K hK -- 13
      have h12 : (Fact.val (.pointer (some ⟨a, 0, none⟩))).holds (u 12) w := hd.get 2 (by kernel_rfl)
      simp only [Fact.holds] at h12
      clear hd
      show Oper.wp Tryd.prog _ _ w K _
      exact wp_load_part 45 (.tmp 12) rfl _ h12 (wds s) _ (hR2.new hc).state Tryd.underlying45 rfl hi8 (hK.out _ _ (Chg.refl _ _) rfl)
    · intro u w hc hd K hK -- 14
      clear hd
      go_simp
      exact hK.out (.pointer (some ⟨a, 0, none⟩)) w (Chg.refl _ _) rfl
    · intro u w hc hd K hK -- 15
      have h14 : (Fact.val (.pointer (some ⟨a, 0, none⟩))).holds (u 14) w := hd.get 4 (by kernel_rfl)
      simp only [Fact.holds] at h14
      clear hd
      simp only [h14] at hK
      go_simp
      exact hK.out (.pointer (some ⟨a, 0, none⟩)) w (Chg.refl _ _) rfl
    · intro u w hc hd K hK -- 16
      have h15 : (Fact.val (.pointer (some ⟨a, 0, none⟩))).holds (u 15) w := hd.get 5 (by kernel_rfl)
      simp only [Fact.holds] at h15
      clear hd
      simp only [h15] at hK
      go_simp
      exact hK.out (.pointer (some ⟨a, 8, none⟩)) w (Chg.refl _ _) rfl
    · intro u w hc hd K hK -- 17
      have h16 : (Fact.val (.pointer (some ⟨a, 8, none⟩))).holds (u 16) w := hd.get 6 (by kernel_rfl)
      simp only [Fact.holds] at h16
      clear hd
      simp only [h16] at hK
      have hcell := cell_chg ha2 hc
      go_simp
      exact hK.out _ _ (Chg.refl _ _) rfl
    · intro u w hc hd K hK -- 18
      clear hd
      go_simp
      exact hK.out (.slice ba lb bc) w (Chg.refl _ _) rfl
    · intro u w hc hd K hK -- 19
      have h13 : (Fact.val (.agg (wds s).toArray)).holds (u 13) w := hd.get 3 (by kernel_rfl)
      simp only [Fact.holds] at h13
      have h17 : (Fact.val (.int .i64 (n : Nat))).holds (u 17) w := hd.get 7 (by kernel_rfl)
      simp only [Fact.holds] at h17
      have h18 : (Fact.val (.slice ba lb bc)).holds (u 18) w := hd.get 8 (by kernel_rfl)
      simp only [Fact.holds] at h18
      clear hd
      show Oper.wp Tryd.prog _ _ w K _
      exact wp_build_to 47 _ rfl _ (built_fork' s hs8 n ba lb bc _ h13 h17 h18) (hK.out _ _ (Chg.refl _ _) rfl)
    · intro u w hc hd K hK -- 20
      have h19 : (Fact.val (.agg (rcells s n (.slice ba lb bc)).toArray)).holds (u 19) w := hd.get 9 (by kernel_rfl)
      simp only [Fact.holds] at h19
      clear hd
      simp only [h19] at hK
      go_simp
      exact hK.out _ _ (chg_one w _) ⟨_, rfl, Nat.le_trans HS2.out hc.size, heap_alloc_last w _⟩
    · intro u w hc hd K hK -- 2
      have h20 : (Fact.blk wa.heap.size (rcells s n (.slice ba lb bc)) 47).holds (u 20) w := hd.get 10 (by kernel_rfl)
      obtain ⟨q20, h20, b20, p20⟩ := h20
      clear hd
      simp only [h20] at hK
      go_simp
      exact hK.out _ _ (Chg.refl _ _) ⟨q20, rfl, b20, p20⟩
  · intro u w hc hA
    have a2 : _ := hA.at 2 (by kernel_rfl)
    clear hA
    obtain ⟨g, e2, hg, hb⟩ := a2
    rw [e2]
    go_wp2
    go_ret
    exact ⟨g, .slice ba lb bc, rfl, hg, hb, ownsRow_keep HO2.out hc (fun _ _ f => f), chg_then HC2.out hc⟩
end Go.Proofs.YtnedllhlmddmoabDoor
