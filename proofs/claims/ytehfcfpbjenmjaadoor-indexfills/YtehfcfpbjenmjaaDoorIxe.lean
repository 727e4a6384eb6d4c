/- The law's own copies of records; the document's Padded and fits; of no statement by themselves. -/
import Derived.Test.YtehfcfpbjenmjaaDoorIxd
namespace Go.Proofs.YtehfcfpbjenmjaaDoor
open Go.RowKit
set_option linter.unusedVariables false
set_option linter.unusedSimpArgs false
def endR : Rec := ⟨-9, -9⟩
theorem elemRc : Tryd.prog.elem 23 = 43 := by kernel_rfl
theorem sizeRc : (sizeOf 43).run Tryd.prog = fun w => .ok 2 w := by kernel_rfl
theorem undRc : Tryd.prog.underlying 23 = some (.slice (Tryd.prog.elem 23)) := by kernel_rfl
theorem elemPl : Tryd.prog.elem 39 = 45 := by kernel_rfl
theorem sizePl : (sizeOf 45).run Tryd.prog = fun w => .ok 4 w := by kernel_rfl
theorem undPl : Tryd.prog.underlying 39 = some (.slice (Tryd.prog.elem 39)) := by kernel_rfl
theorem from_rc (w : World) (q : Rec) (t : TypeId) : From (w.alloc (.cells #[.int .i64 q.u, .int .i64 q.s] t)) (some ⟨w.heap.size, 0, none⟩) 1 1 2 (rcs [q]) := by
  refine ⟨by rw [rcs_len]; rfl, .inr ⟨_, rfl, fun j u hu => ?_⟩⟩
  rw [rcs_one] at hu
  rw [addk, Nat.zero_add, World.cell?, heap_alloc_new]
  simpa [Rec.cells] using hu
theorem from_pl (w : World) (q : Plc) (t : TypeId) : From (w.alloc (.cells #[.int .i64 q.off, .int .i64 q.r.u, .int .i64 q.r.s, .int .i64 q.st] t)) (some ⟨w.heap.size, 0, none⟩) 1 1 4 (pls [q]) := by
  refine ⟨by rw [pls_len]; rfl, .inr ⟨_, rfl, fun j u hu => ?_⟩⟩
  rw [pls_one] at hu
  rw [addk, Nat.zero_add, World.cell?, heap_alloc_new]
  simpa [Plc.cells] using hu
set_option maxHeartbeats 4000000 in
set_option maxRecDepth 100000 in
theorem roomR_any (ad : Option Addr) (n c : Nat) (l : List Rec) (w0 : World) (h : RcF w0 ad n c l) (hn : n + 1 ≤ 8796093022208) : Calls Tryd.prog 17 #[.slice ad n c] w0 fun e w' => ∃ oa oc, e = .returned (.slice oa (n + 1) oc) ∧ w'.ownsRow w0.heap.size 43 2 (.slice oa (n + 1) oc) (n + 1) (rcs (l ++ [endR])) ∧ Chg (fun _ => False) w0 w' := by
  obtain ⟨iu, hiu, hu0, hu1, hu2⟩ := info_parts infoRc
  have hni : (n : Int) + 1 ≤ 8796093022208 := by omega
  have hown3 : w0.ownsRow w0.heap.size 43 2 (.slice none 0 0) 0 [] := World.ownsRow_nil _ _ _ _
  have hsrc3 := h.src
  have hone3 := rcs_cell l
  go_enter Tryd.func17, Tryd.ntmps17
  go_wp2_with (at_builtin; refine wpList_append_moved rfl _ _ 23 rfl w0.heap.size 43 iu (.agg #[.int .i64 0, .int .i64 0]) 2 16 Tryd.underlying23 hiu hu0 hu1 hu2 rfl (by decide) _ 0 [] rfl ad n c rfl (rcs l) ?h1 ?h2 ?h3 ?m1 ?m2 ?m3 ?_)
  case h1 => exact hown3
  case h2 => exact hsrc3
  case h3 => exact hone3
  case m1 => unfold maxLen; omega
  case m2 => omega
  case m3 => exact Nat.le_refl _
  intro v4 w4 ho4 hg4 hm4
  have c4 : Chg (fun _ => False) w0 w4 := (Chg.refl _ w0).grown hg4 (fun j e => by cases e)
  try simp only [List.nil_append, Nat.zero_add] at ho4
  obtain ⟨a4, d4, rfl, _⟩ := formI ho4
  have cZ := chg_one w4 (.cells #[.int .i64 (-9), .int .i64 (-9)] 43)
  have hown5 := owns_keepI ho4 cZ (fun _ _ f => f)
  have hsrc5 := from_rc w4 endR 43
  have hB5 : w0.heap.size ≤ (w4.alloc (.cells #[.int .i64 (-9), .int .i64 (-9)] 43)).heap.size := (chg_then c4 cZ).size
  have HC5 : Hid (Chg (fun _ => False) w0 (w4.alloc (.cells #[.int .i64 (-9), .int .i64 (-9)] 43))) := chg_then c4 cZ
  clear ho4 hg4 hm4 c4 hown3 hsrc3 hone3 cZ
  go_wp2_with (at_builtin; refine wpList_append_moved rfl _ _ 23 rfl w0.heap.size 43 iu (.agg #[.int .i64 0, .int .i64 0]) 2 16 Tryd.underlying23 hiu hu0 hu1 hu2 rfl (by decide) _ n (rcs l) rfl (some ⟨w4.heap.size, 0, none⟩) 1 1 rfl (rcs [endR]) ?g1 ?g2 ?g3 ?l1 ?l2 ?l3 ?_)
  case g1 => exact hown5
  case g2 => exact hsrc5
  case g3 => exact rcs_cell _
  case l1 => unfold maxLen; omega
  case l2 => omega
  case l3 => exact hB5
  intro v6 w6 ho6 hg6 hm6
  have HC6 : Hid (Chg (fun _ => False) w0 w6) := HC5.out.grown hg6 (fun j e => .inr ((hown5.lt j e).1))
  rw [← rcs_app] at ho6
  obtain ⟨a6, d6, rfl, _⟩ := formI ho6
  have HO6 : Hid (w6.ownsRow w0.heap.size 43 2 (.slice a6 (n + 1) d6) (n + 1) (rcs (l ++ [endR]))) := ho6
  clear ho6 hg6 hm6 hown5 hsrc5 hB5 HC5
  go_wp2
  go_ret
  exact ⟨a6, d6, rfl, HO6.out, HC6.out⟩
/-- What room has made of records. -/
def RcK (w : World) (B : Nat) (ad : Option Addr) (n c : Nat) (l : List Rec) : Prop := w.ownsRow B 43 2 (.slice ad (n + 1) c) (n + 1) (rcs (l ++ [endR])) ∧ l.length = n ∧ ∀ (k : Nat) (q : Rec), l[k]? = some q → q.I
theorem RcK.new {w w' : World} {B n c : Nat} {ad : Option Addr} {l : List Rec} (h : RcK w B ad n c l) (hc : Chg (fun _ => False) w w') : RcK w' B ad n c l := ⟨owns_keepI h.1 hc (fun _ _ f => f), h.2⟩
theorem RcK.all {w : World} {B n c : Nat} {ad : Option Addr} {l : List Rec} (h : RcK w B ad n c l) : RcF w ad (n + 1) c (l ++ [endR]) := by
  obtain ⟨a, c', e, hc⟩ := formI h.1
  simp only [Value.slice.injEq] at e
  obtain ⟨rfl, _, rfl⟩ := e
  refine ⟨from_own h.1, by rw [List.length_append, h.2.1]; rfl, hc, fun k q e => ?_⟩
  by_cases hk : k < l.length
  · rw [List.getElem?_append_left hk] at e
    exact h.2.2 k q e
  · have h1 := (List.getElem?_eq_some_iff.1 e).1
    simp at h1
    obtain rfl : k = l.length := by omega
    simp at e
    subst e
    unfold Rec.I I64 endR
    decide
theorem RcK.F {w : World} {B n c : Nat} {ad : Option Addr} {l : List Rec} (h : RcK w B ad n c l) : RcF w ad n c l := h.all.front h.2.1
set_option maxHeartbeats 4000000 in
set_option maxRecDepth 100000 in
theorem keptR_any (B : Nat) (ad b : Option Addr) (n c d : Nat) (l : List Rec) (w0 : World) (hx : RcK w0 B ad n c l) (hy : RcF w0 b n d l) (hn : n + 1 ≤ 8796093022208) : Calls Tryd.prog 20 #[.slice ad (n + 1) c, .slice b n d] w0 fun e w' => e = .returned (.bool true) ∧ ∃ k, w' = w0.drewN k := by
  have hni : (n : Int) + 1 ≤ 8796093022208 := by omega
  have hall := hx.all
  have hcap := hall.cap
  obtain ⟨q, bx, ox, hq, _, hab, x0, x1⟩ := hall.at (k := n) (by omega)
  rw [List.getElem?_append_right (by rw [hx.2.1]; exact Nat.le_refl _), hx.2.1] at hq
  simp at hq
  subst hq
  have HS : Hid _ := sameR_any ad b n c d l w0 hx.F hy (by omega)
  subst hab
  have hcut : ∀ ww, (Instr.sliceAt 23 (.slice (some ⟨bx, ox, none⟩) (n + 1) c) none (some (.int .i64 (n : Int))) none).run Tryd.prog ww = .ok (.slice (some ⟨bx, ox, none⟩) n c) ww := fun ww => run_cutZ_hi undRc elemRc sizeRc _ (n + 1) c n ww (by omega)
  simp only [endR] at x0 x1
  clear hall hx hy
  go_enter Tryd.func20, Tryd.ntmps20
  go_wp2_with fail
  refine Calls.mono HS.out ?_
  rintro z w1 ⟨rfl, k1, rfl⟩
  go_wp2
  go_ret
  exact ⟨rfl, k1, rfl⟩
theorem pad_lt {n : Int} (h0 : 0 ≤ n) (h1 : n ≤ 9223372036854775804) : 0 ≤ Ix23.pad n ∧ Ix23.pad n ≤ 9223372036854775804 ∧ n ≤ Ix23.pad n := by unfold Ix23.pad; omega
set_option maxHeartbeats 2000000 in
theorem rpad_any (n : Int) (w : World) (h0 : 0 ≤ n) (h1 : n ≤ 9223372036854775804) : Calls Tryd.prog 51 #[.int .i64 n] w fun e w' => e = .returned (.int .i64 (Ix23.pad n)) ∧ w = w' := by
  have hp := pad_lt h0 h1
  have hm : Ix23.pad n % 4 = 0 := (Ix23.pad_is n).2.2
  have hq : Ix23.pad n ≤ n + 3 := (Ix23.pad_is n).2.1
  generalize Ix23.pad n = p at *
  go_enter Tryd.func51, Tryd.ntmps51
  go_wp2_with fail
  go_loop [0] (fun i => ∃ x : Int, i = .int .i64 x ∧ n ≤ x ∧ x ≤ p) (fun i => (p - intOf i).toNat)
  case atStart => exact ⟨n, rfl, Int.le_refl _, by omega⟩
  case round =>
    obtain ⟨x, rfl, hx0, hx1⟩ := hrel
    by_cases hx : x = p
    · subst hx
      have d1 : (x % 4 != 0) = false := by simp [hm]
      go_wp2
      go_ret
      exact ⟨rfl, rfl⟩
    · have d1 : (x % 4 != 0) = true := by
        have : x % 4 ≠ 0 := by omega
        simp [this]
      go_wp2
      go_round
      case rel => exact ⟨x + 1, by go_num, by omega, by omega⟩
      case measure => simp [intOf]; omega
end Go.Proofs.YtehfcfpbjenmjaaDoor
