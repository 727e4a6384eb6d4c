/- The walk through the statement WireBack, of no statement by itself. -/
import Derived.Test.YtgfibbabfpphpaaFound
namespace Go.Proofs.Ytgfibbabfpphpaa
open Go.RowKit

/-- All that is written of parts. -/
def bytesOf (ps : List Pt) : List Int := (ps.map Pt.bytes).flatten
/-- What is written ahead of part number k: the byte 77, and the parts ahead. -/
def bytesTo (ps : List Pt) (k : Nat) : List Int := 77 :: bytesOf (ps.take k)

theorem bytesTo_succ (ps : List Pt) (k : Nat) (p : Pt) (h : ps[k]? = some p) : bytesTo ps (k + 1) = bytesTo ps k ++ p.bytes := by
  obtain ⟨hk, rfl⟩ := List.getElem?_eq_some_iff.1 h
  unfold bytesTo bytesOf
  rw [List.take_succ_eq_append_getElem hk, List.map_append, List.flatten_append]
  simp only [List.map_cons, List.map_nil, List.flatten_cons, List.flatten_nil, List.append_nil, List.cons_append]

theorem bytesTo_split (ps : List Pt) (k : Nat) (p : Pt) (h : ps[k]? = some p) : ∃ r, bytesTo ps ps.length = bytesTo ps k ++ (p.bytes ++ r) := by
  obtain ⟨hk, rfl⟩ := List.getElem?_eq_some_iff.1 h
  refine ⟨bytesOf (ps.drop (k + 1)), ?_⟩
  unfold bytesTo bytesOf
  rw [List.take_length]
  have e : ps = ps.take k ++ (ps[k] :: ps.drop (k + 1)) := by
    rw [← List.drop_eq_getElem_cons hk]; exact (List.take_append_drop k ps).symm
  conv => lhs; rw [e]
  rw [List.map_append, List.flatten_append]
  simp only [List.map_cons, List.flatten_cons, List.cons_append]

theorem bytesTo_at (ps : List Pt) (k : Nat) (p : Pt) (h : ps[k]? = some p) :
    (bytesTo ps k).length + p.bytes.length ≤ (bytesTo ps ps.length).length ∧ ((bytesTo ps ps.length).drop (bytesTo ps k).length).take p.bytes.length = p.bytes := by
  obtain ⟨r, e⟩ := bytesTo_split ps k p h
  rw [e]
  refine ⟨by simp, ?_⟩
  rw [List.drop_left, List.take_left]

theorem flatten_take_le (l : List (List Int)) : ∀ k, ((l.take k).flatten).length ≤ l.flatten.length := by
  induction l with
  | nil => intro k; simp
  | cons x l ih =>
    intro k
    cases k with
    | zero => simp
    | succ k => have := ih k; simp only [List.take_succ_cons, List.flatten_cons, List.length_append]; omega

theorem bytesTo_le (ps : List Pt) (k : Nat) : (bytesTo ps k).length ≤ (bytesOf ps).length + 1 := by
  have := flatten_take_le (ps.map Pt.bytes) k
  unfold bytesTo bytesOf
  rw [List.map_take]
  simp only [List.length_cons]
  omega

theorem part_m_le {w : World} {p : Pt} (hp : p.In w) (hk : ¬ p.kind = 1) (hk2 : ¬ p.kind = 2) (hk4 : ¬ p.kind = 4) : p.m = p.bytes.length := by
  unfold Pt.bytes
  rw [if_neg hk, if_neg hk2, if_neg hk4, hp.row.1]

theorem Pt.In.old {w w' : World} {p : Pt} {S : Nat → Prop} (hp : p.In w) (hc : Chg S w w') (hS : ∀ k, k < w.heap.size → ¬ S k) : p.In w' :=
  ⟨hp.n0, hp.n1, hp.v0, hp.v1, row8_old hp.row hc hS, hp.b8⟩

/-- The parts lie one behind the other from an address on. -/
def PartsAt (w : World) (b off : Nat) (ps : List Pt) : Prop :=
  ∀ i p, ps[i]? = some p → w.cell? ⟨b, off + i * 4, none⟩ = some (.int .i64 p.kind) ∧ w.cell? ⟨b, off + i * 4 + 1, none⟩ = some (.int .i64 p.n) ∧ w.cell? ⟨b, off + i * 4 + 2, none⟩ = some (.int .u64 p.v) ∧ w.cell? ⟨b, off + i * 4 + 3, none⟩ = some (.slice p.ad p.m p.c)

set_option maxRecDepth 100000 in
set_option maxHeartbeats 2000000 in
theorem back_walk (a0 : Option Addr) (b off len cap : Nat) (ps : List Pt) (w : World) (ha0 : 0 < len → a0 = some ⟨b, off, none⟩) (hl : ps.length = len) (hp : PartsAt w b off ps) (hin : ∀ p ∈ ps, p.In w) (hcap : len ≤ 1048576) (hbk : (bytesOf ps).length ≤ 16777216) (hpmx : ∀ p ∈ ps, p.m ≤ 1048576) :
    Calls Try.prog 7 #[.slice a0 len cap] w fun e w' => e = .returned (.bool true) ∧ Below w.heap.size w w' := by
  go_enter Try.func7, Try.ntmps7
  go_wp2_with fail
  refine (newWriter_any _).mono ?_
  rintro e w1 ⟨rfl, rfl⟩
  have hw1 := newWr_at w.heap.size w (Nat.le_refl _)
  have hc1 : Chg (fun k => w.heap.size ≤ k) w (w.alloc (.cells #[.int .i64 0, .slice none 0 0] 75)) := chg_one _ _ _
  generalize w.alloc (.cells #[.int .i64 0, .slice none 0 0] 75) = w1 at *
  go_wp2_with fail
  refine (low_i _ _ _ _ _ _ _ hw1 hc1.size (by omega) (by omega) (by simp)).mono ?_
  rintro e w2 ⟨rfl, v2, hw2, hc2, hm2⟩
  have hC2 : Chg (fun k => w.heap.size ≤ k) w w2 := hc1.trans hc2 (fun k f => .inl (by have := foot_nil f; omega))
  have e77 : [] ++ lowBytes 77 (Int.toNat 1) = [77] := by decide
  rw [e77] at hw2
  clear hw1 hc1 hc2 hm2 e77
  go_wp2_with fail
  have hw2 : Wr w.heap.size w2 w.heap.size v2 (bytesTo ps 0) := by simpa [bytesTo, bytesOf] using hw2
  go_loopw [4, 25] (fun n i wr => ∃ k : Nat, k ≤ len ∧ i = .int .i64 k ∧ n = .int .i64 (bytesTo ps k).length ∧ ∃ vv, Wr w.heap.size wr w.heap.size vv (bytesTo ps k) ∧ Chg (fun k => w.heap.size ≤ k) w wr) (fun _ i _ => len - (intOf i).toNat)
  case atStart => exact ⟨0, Nat.zero_le _, rfl, rfl, v2, hw2, hC2⟩
  case round =>
    clear hw2 hC2
    obtain ⟨k, hk, rfl, rfl, vv, hwr, hcr⟩ := hrel
    by_cases hlt : k < len
    · obtain rfl := ha0 (by omega)
      obtain ⟨p, hpk⟩ : ∃ p, ps[k]? = some p := ⟨ps[k], List.getElem?_eq_getElem (by omega)⟩
      have hpm := List.mem_of_getElem? hpk
      obtain ⟨c0, c1, c2, c3⟩ := hp k p hpk
      have hb : b < w.heap.size := World.block_lt_of_cell? w _ c0
      have d0 := (hcr.below (Nat.le_refl _) (fun k f => f)).cell (p := ⟨b, off + k * 4, none⟩) hb
      have d1 := (hcr.below (Nat.le_refl _) (fun k f => f)).cell (p := ⟨b, off + k * 4 + 1, none⟩) hb
      have d2 := (hcr.below (Nat.le_refl _) (fun k f => f)).cell (p := ⟨b, off + k * 4 + 2, none⟩) hb
      have d3 := (hcr.below (Nat.le_refl _) (fun k f => f)).cell (p := ⟨b, off + k * 4 + 3, none⟩) hb
      rw [c0] at d0
      rw [c1] at d1
      rw [c2] at d2
      rw [c3] at d3
      have hL := bytesTo_le ps k
      have hL2 := bytesTo_le ps (k + 1)
      have hpi := (hin p hpm).old (hcr.alloc (.cells #[.int .i64 p.kind, .int .i64 p.n, .int .u64 p.v, .slice p.ad p.m p.c] 54)) (fun k h => by omega)
      have hwa := hwr.alloc (.cells #[.int .i64 p.kind, .int .i64 p.n, .int .u64 p.v, .slice p.ad p.m p.c] 54)
      have hss := hcr.size
      have hmm := hpmx p hpm
      have hS := bytesTo_succ ps k p hpk
      rw [hS, List.length_append] at hL2
      have HS : Hid (bytesTo ps (k + 1) = bytesTo ps k ++ p.bytes) := hS
      clear c0 c1 c2 c3 hS
      go_wp2_with fail
      have hcall := lays_any w.heap.size w.heap.size vv (bytesTo ps k) p _ hwa (by simp; omega) hpi (by omega)
      unfold Pt.val at hcall
      refine hcall.mono ?_
      rintro e w3 ⟨rfl, v3, hw3, hc3, _⟩
      have hC3 : Chg (fun k => w.heap.size ≤ k) w w3 := (hcr.alloc (.cells #[.int .i64 p.kind, .int .i64 p.n, .int .u64 p.v, .slice p.ad p.m p.c] 54)).trans hc3 (fun k f => .inl (hwr.foot k f).1)
      clear hcall hpi hwa hc3 d0 d1 d2 d3 hwr hcr
      go_wp2_with fail
      refine (len_i _ _ _ _ (((bytesTo ps k).length : Int) + (p.bytes.length : Int)) _ hw3 (by simp)).mono ?_
      rintro e w4 ⟨rfl, rfl⟩
      go_wp2
      go_roundw
      case rel => exact ⟨k + 1, by omega, by go_num, congrArg (Value.int .i64) (by rw [HS.out]; simp), v3, by rw [HS.out]; exact hw3, hC3⟩
      case measure => simp [intOf]; omega
    · obtain rfl : k = len := by omega
      subst hl
      have hLe := bytesTo_le ps ps.length
      clear hk hlt
      go_wp2_with fail
      refine (bytes_any _ _ _ _ _ hwr (by omega)).mono ?_
      rintro e w3 ⟨rfl, hq3, hc3⟩
      have hC3 := chg_then hcr hc3
      have hrow := row8_blk hq3 _ rfl (bytesTo ps ps.length).length
      have hss : w.heap.size ≤ w3.heap.size := hC3.size
      clear hwr hcr hc3 hq3
      go_wp2_with fail
      refine (newReader_any w.heap.size _ _ _ _ _ hrow (by omega) hss).mono ?_
      rintro e w4 ⟨ra, rfl, hr4, hc4, _⟩
      have hC4 := chg_then hC3 hc4
      clear hC3 hc4 hrow hss
      go_wp2_with fail
      refine (left_i _ _ _ _ _ ((bytesTo ps ps.length).length : Int) _ hr4 (by omega)).mono ?_
      rintro e w5 ⟨rfl, q5, rfl⟩
      have hr5 := hr4.draw q5
      have hC5 : Chg (fun k => w.heap.size ≤ k) w (w4.drewN q5) := chg_then hC4 (chg_drewN w4 q5)
      generalize w4.drewN q5 = w5 at *
      clear hr4 hC4
      go_wp2_with fail
      refine (u8_ok _ _ _ _ _ 77 _ hr5 (by simp [bytesTo]) (by simp [bytesTo]) (by omega) (by omega)).mono ?_
      rintro e w6 ⟨rfl, hr6, hc6⟩
      have hC6 : Chg (fun k => w.heap.size ≤ k) w w6 := hC5.trans hc6 (fun i e => .inl (by subst e; exact hr5.loA))
      have h60 : 0 + 1 = (bytesTo ps 0).length := by simp [bytesTo, bytesOf]
      rw [h60] at hr6
      clear hr5 hC5 hc6 h60
      go_wp2_with fail
      go_loopw [78] (fun i wr => ∃ j : Nat, j ≤ ps.length ∧ i = .int .i64 j ∧ Rd w.heap.size wr ra w3.heap.size (bytesTo ps ps.length) (bytesTo ps j).length ∧ Chg (fun k => w.heap.size ≤ k) w wr) (fun i _ => ps.length - (intOf i).toNat)
      case atStart => exact ⟨0, Nat.zero_le _, rfl, hr6, hC6⟩
      case round =>
        clear hr6 hC6
        obtain ⟨j, hj, rfl, hrj, hcj⟩ := hrel
        have hLj := bytesTo_le ps j
        by_cases hlt : j < ps.length
        · obtain rfl := ha0 (by omega)
          obtain ⟨p, hpk⟩ : ∃ p, ps[j]? = some p := ⟨ps[j], List.getElem?_eq_getElem hlt⟩
          have hpm := List.mem_of_getElem? hpk
          obtain ⟨c0, c1, c2, c3⟩ := hp j p hpk
          have hb : b < w.heap.size := World.block_lt_of_cell? w _ c0
          have d0 := (hcj.below (Nat.le_refl _) (fun k f => f)).cell (p := ⟨b, off + j * 4, none⟩) hb
          have d1 := (hcj.below (Nat.le_refl _) (fun k f => f)).cell (p := ⟨b, off + j * 4 + 1, none⟩) hb
          have d2 := (hcj.below (Nat.le_refl _) (fun k f => f)).cell (p := ⟨b, off + j * 4 + 2, none⟩) hb
          have d3 := (hcj.below (Nat.le_refl _) (fun k f => f)).cell (p := ⟨b, off + j * 4 + 3, none⟩) hb
          rw [c0] at d0
          rw [c1] at d1
          rw [c2] at d2
          rw [c3] at d3
          have hra := hrj.loA
          have hca := hcj.alloc (.cells #[.int .i64 p.kind, .int .i64 p.n, .int .u64 p.v, .slice p.ad p.m p.c] 54)
          have hrja := hrj.chg (chg_one (fun _ => False) _ (.cells #[.int .i64 p.kind, .int .i64 p.n, .int .u64 p.v, .slice p.ad p.m p.c] 54))
          have hpi : ∀ w2, Chg (fun k => k = ra) _ w2 → p.In w2 := fun w2 hc2 => (hin p hpm).old (hca.trans hc2 (fun k f => .inl (by omega))) (fun k h => by omega)
          obtain ⟨ha1, ha2⟩ := bytesTo_at ps j p hpk
          have hcall := found_any w.heap.size ra w3.heap.size _ _ p _ hrja hpi ha1 ha2
          unfold Pt.val at hcall
          have HS : Hid (bytesTo ps (j + 1) = bytesTo ps j ++ p.bytes) := bytesTo_succ ps j p hpk
          have HCALL := hcall
          clear c0 c1 c2 c3 hcall ha1 ha2 hpi
          go_wp2_with fail
          refine HCALL.mono ?_
          rintro e w7 ⟨rfl, hr7, hc7⟩
          have hC7 : Chg (fun k => w.heap.size ≤ k) w w7 := hca.trans hc7 (fun i e => .inl (by subst e; exact hra))
          clear HCALL hrja hca hc7 d0 d1 d2 d3 hrj hcj
          go_wp2
          go_roundw
          case rel => exact ⟨j + 1, by omega, by go_num, by rw [HS.out, List.length_append]; exact hr7, hC7⟩
          case measure => simp [intOf]; omega
        · obtain rfl : j = ps.length := by omega
          go_wp2_with fail
          refine (u8_end _ _ _ _ _ _ hrj rfl).mono ?_
          rintro e w7 ⟨rfl, hr7, hc7⟩
          have hC7 : Chg (fun k => w.heap.size ≤ k) w w7 := hcj.trans hc7 (fun i e => .inl (by subst e; exact hrj.loA))
          clear hrj hc7 hcj
          go_wp2_with fail
          refine (left_i _ _ _ _ _ 0 _ hr7 (by omega)).mono ?_
          rintro e w8 ⟨rfl, q8, rfl⟩
          have hr8 := hr7.draw q8
          have hC8 : Chg (fun k => w.heap.size ≤ k) w (w7.drewN q8) := chg_then hC7 (chg_drewN w7 q8)
          generalize w7.drewN q8 = w8 at *
          clear hr7 hC7
          go_wp2_with fail
          refine (off_any _ _ _ _ _ _ hr8).mono ?_
          rintro e w9 ⟨rfl, rfl⟩
          go_wp2
          go_ret
          exact ⟨rfl, hC8.below (Nat.le_refl _) (fun k f => f)⟩

end Go.Proofs.Ytgfibbabfpphpaa
