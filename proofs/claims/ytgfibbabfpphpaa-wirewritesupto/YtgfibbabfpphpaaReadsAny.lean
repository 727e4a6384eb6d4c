/- The contract of the statements' own function reads, whatever is to be done, of no statement by itself. -/
import Derived.Test.YtgfibbabfpphpaaReadsC
import Derived.Test.YtgfibbabfpphpaaOpen
namespace Go.Proofs.Ytgfibbabfpphpaa
open Go.RowKit

set_option maxRecDepth 100000 in
set_option maxHeartbeats 1000000 in
theorem reads_other (B a g ra rg off : Nat) (xs : List Int) (kind : Int) (two : Bool) (n v : Int) (ba : Option Addr) (bl bc : Nat) (lv : Value) (w : World) (h : Two B w a g ra rg xs off)
    (k1 : (kind == 1) = false) (k2 : (kind == 2) = false) (k3 : (kind == 3) = false) (k4 : (kind == 4) = false) (k5 : (kind == 5) = false) (k6 : (kind == 6) = false) :
    Calls Try.prog 30 #[.pointer (some ⟨a, 0, none⟩), .pointer (some ⟨ra, 0, none⟩), .agg #[.int .i64 kind, .bool two, .int .i64 n, .int .u64 v, .slice ba bl bc], lv] w fun e w' => e = .returned (.tuple #[lv, .bool true]) ∧ (∃ off', Two B w' a g ra rg xs off') ∧ Chg (fun k => k = a ∨ k = ra) w w' := by
  have hA := h.new (chg_one _ w (.cells #[.int .i64 kind, .bool two, .int .i64 n, .int .u64 v, .slice ba bl bc] 47))
  have hC : Chg (fun k => k = a ∨ k = ra) w (w.alloc (.cells #[.int .i64 kind, .bool two, .int .i64 n, .int .u64 v, .slice ba bl bc] 47)) := chg_one _ w _
  clear h
  go_enter Try.func30, Try.ntmps30
  go_wp2
  go_ret2
  exact ⟨rfl, ⟨_, hA⟩, hC⟩

/-- All but Take: what is answered is the document's. -/
theorem reads_plain (B a g ra rg off : Nat) (xs : List Int) (kind : Int) (two : Bool) (n v : Int) (ba : Option Addr) (bl bc : Nat) (lv : Value) (w : World) (h : Two B w a g ra rg xs off) (h8 : Bytes8 xs) (hk : kind ≠ 6) :
    Calls Try.prog 30 #[.pointer (some ⟨a, 0, none⟩), .pointer (some ⟨ra, 0, none⟩), .agg #[.int .i64 kind, .bool two, .int .i64 n, .int .u64 v, .slice ba bl bc], lv] w fun e w' => e = .returned (.tuple #[lv, .bool true]) ∧ (∃ off', Two B w' a g ra rg xs off') ∧ Chg (fun k => k = a ∨ k = ra) w w' := by
  have hle := h.rd.le
  by_cases k1 : kind = 1
  · subst k1
    by_cases hn : n < 1 ∨ 8 < n
    · exact reads_low_no B a g ra rg off xs two n v ba bl bc lv w h hn
    · by_cases hb : (xs.length : Int) - off < n
      · exact reads_low_big B a g ra rg off xs two n v ba bl bc lv w h (by omega) (by omega) hb
      · obtain ⟨m, rfl⟩ := Int.eq_ofNat_of_zero_le (show 0 ≤ n by omega)
        exact reads_low_ok B a g ra rg off xs two m v ba bl bc lv w h _ (by omega) (by omega) (by omega) (h8.cut off m) rfl
  by_cases k2 : kind = 2
  · subst k2
    by_cases hn : n < 1 ∨ 8 < n
    · exact reads_high_no B a g ra rg off xs two n v ba bl bc lv w h hn
    · by_cases hb : (xs.length : Int) - off < n
      · exact reads_high_big B a g ra rg off xs two n v ba bl bc lv w h (by omega) (by omega) hb
      · obtain ⟨m, rfl⟩ := Int.eq_ofNat_of_zero_le (show 0 ≤ n by omega)
        exact reads_high_ok B a g ra rg off xs two m v ba bl bc lv w h _ (by omega) (by omega) (by omega) (h8.cut off m) rfl
  by_cases k3 : kind = 3
  · subst k3
    by_cases hb : xs.length = off
    · exact reads_u8_end B a g ra rg off xs two n v ba bl bc lv w h hb
    · have hlt : off < xs.length := by omega
      have hx := h8.getD off
      have e : (xs.drop off).take 1 = [xs.getD off 0] := by
        rw [List.drop_eq_getElem_cons hlt, List.take_succ_cons, List.take_zero, List.getD, List.getElem?_eq_getElem hlt]
        rfl
      exact reads_u8_ok B a g ra rg off xs two n v ba bl bc lv w h (xs.getD off 0) hlt e rfl hx.1 hx.2
  by_cases k4 : kind = 4
  · subst k4
    by_cases hn : n < 0
    · exact reads_zeros_neg B a g ra rg off xs two n v ba bl bc lv w h hn
    · by_cases hb : (xs.length : Int) - off < n
      · exact reads_zeros_big B a g ra rg off xs two n v ba bl bc lv w h (by omega) hb
      · obtain ⟨m, rfl⟩ := Int.eq_ofNat_of_zero_le (show 0 ≤ n by omega)
        by_cases hz : ∀ k, k < m → ((xs.drop off).take m).getD k 0 = 0
        · exact reads_zeros_ok B a g ra rg off xs two m v ba bl bc lv w h _ (by omega) rfl hz
        · obtain ⟨j, hj, hjz, hj0⟩ := first_not m (fun k => ((xs.drop off).take m).getD k 0 = 0) hz
          exact reads_zeros_bad B a g ra rg off xs two m v ba bl bc lv w h _ j _ (by omega) rfl hj hj0 rfl (by simpa using hjz)
  by_cases k5 : kind = 5
  · subst k5
    exact reads_len B a g ra rg off xs two n v ba bl bc lv w h
  exact reads_other B a g ra rg off xs kind two n v ba bl bc lv w h (beq_eq_false_iff_ne.2 k1) (beq_eq_false_iff_ne.2 k2) (beq_eq_false_iff_ne.2 k3) (beq_eq_false_iff_ne.2 k4) (beq_eq_false_iff_ne.2 k5) (beq_eq_false_iff_ne.2 hk)

/-- What two readers and the book are behind a call. -/
def Reads (B : Nat) (w : World) (a g ra rg : Nat) (xs : List Int) (lv : Value) (hs : List Hd) (lv' : Value) (w' : World) : Prop :=
  (∃ off', Two B w' a g ra rg xs off') ∧ (∃ hs', Bk B w' lv' hs' ∧ hs'.length ≤ hs.length + 1) ∧ Chg (fun k => k = a ∨ k = ra ∨ lv.ownBlock = some k) w w' ∧ Moved w lv lv'

theorem reads_any (B a g ra rg off : Nat) (xs : List Int) (kind : Int) (two : Bool) (n v : Int) (ba : Option Addr) (bl bc : Nat) (lv : Value) (hs : List Hd) (w : World) (h : Two B w a g ra rg xs off) (h8 : Bytes8 xs) (hbk : Bk B w lv hs) (hB : B ≤ w.heap.size) (hlen : hs.length ≤ 16777216) (hxs : xs.length ≤ 1099511627776) :
    Calls Try.prog 30 #[.pointer (some ⟨a, 0, none⟩), .pointer (some ⟨ra, 0, none⟩), .agg #[.int .i64 kind, .bool two, .int .i64 n, .int .u64 v, .slice ba bl bc], lv] w fun e w' => ∃ lv', e = .returned (.tuple #[lv', .bool true]) ∧ Reads B w a g ra rg xs lv hs lv' w' := by
  have hle := h.rd.le
  by_cases hk : kind = 6
  · subst hk
    by_cases hn : n < 0
    · refine (reads_take_neg B a g ra rg off xs two n v ba bl bc lv hs w h hbk hB hlen hxs hn).mono fun e w' ⟨lv', h', he, ht, hb, hc, hm⟩ => ⟨lv', he, ht, ⟨_, hb, by simp⟩, hc, hm⟩
    · by_cases hb : (xs.length : Int) - off < n
      · refine (reads_take_big B a g ra rg off xs two n v ba bl bc lv hs w h hbk hB hlen hxs (by omega) hb).mono fun e w' ⟨lv', h', he, ht, hb, hc, hm⟩ => ⟨lv', he, ht, ⟨_, hb, by simp⟩, hc, hm⟩
      · obtain ⟨m, rfl⟩ := Int.eq_ofNat_of_zero_le (show 0 ≤ n by omega)
        refine (reads_take_ok B a g ra rg off xs two m v ba bl bc lv hs w h hbk hB hlen hxs (by omega)).mono fun e w' ⟨lv', h', he, ht, hb, hc, hm⟩ => ⟨lv', he, ht, ⟨_, hb, by simp⟩, hc, hm⟩
  · refine (reads_plain B a g ra rg off xs kind two n v ba bl bc lv w h h8 hk).mono fun e w' ⟨he, ht, hc⟩ => ⟨lv, he, ht, ⟨hs, hbk.keep hc (fun b e f => ?_) (fun b cur e f => ?_), by omega⟩, hc.mono (fun _ f => .inl (by rcases f with f | f; exact .inl f; exact .inr (.inl f))), Moved.refl _ _⟩
    · obtain ⟨c1, h1⟩ := own_blk hbk.book e
      obtain ⟨ad, c, hr⟩ := h.rr
      have h2 := h.rd.blk
      have h3 := hr.blk
      rcases f with f | f
      · rw [f, h2] at h1; simp at h1
      · rw [f, h3] at h1; simp at h1
    · obtain ⟨ad, c, hr⟩ := h.rr
      have h2 := h.rd.blk
      have h3 := hr.blk
      rcases f with f | f
      · rw [f, h2] at e; simp at e
      · rw [f, h3] at e; simp at e

end Go.Proofs.Ytgfibbabfpphpaa
