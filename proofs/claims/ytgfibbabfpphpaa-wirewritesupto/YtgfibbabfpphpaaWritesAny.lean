/- The contract of the statements' own function writes, whatever is to be done, of no statement by itself. -/
import Derived.Test.YtgfibbabfpphpaaWritesC
import Derived.Test.YtgfibbabfpphpaaOpen
namespace Go.Proofs.Ytgfibbabfpphpaa
open Go.RowKit

set_option maxRecDepth 100000 in
set_option maxHeartbeats 1000000 in
theorem writes_other (B a : Nat) (v : Value) (ra : Nat) (rv : Value) (bs : List Int) (kind : Int) (two : Bool) (n x : Int) (ba : Option Addr) (bl bc : Nat) (lv : Value) (w : World) (h : TW B w a v ra rv bs)
    (k1 : (kind == 1) = false) (k2 : (kind == 2) = false) (k3 : (kind == 3) = false) (k4 : (kind == 4) = false) (k5 : (kind == 5) = false) (k6 : (kind == 6) = false) :
    Calls Try.prog 23 #[.pointer (some ⟨a, 0, none⟩), .pointer (some ⟨ra, 0, none⟩), .agg #[.int .i64 kind, .bool two, .int .i64 n, .int .u64 x, .slice ba bl bc], lv] w fun e w' => e = .returned (.tuple #[lv, .bool true]) ∧ Writes B w a v ra rv bs 1048576 w' := by
  have hA := h.new (chg_one _ w (.cells #[.int .i64 kind, .bool two, .int .i64 n, .int .u64 x, .slice ba bl bc] 47))
  have hC : Chg (fun _ => False) w (w.alloc (.cells #[.int .i64 kind, .bool two, .int .i64 n, .int .u64 x, .slice ba bl bc] 47)) := chg_one _ w _
  clear h
  go_enter Try.func23, Try.ntmps23
  go_wp2
  go_ret2
  exact ⟨rfl, v, rv, bs, hA, by omega, chg_none hC, Moved.refl _ _, Moved.refl _ _⟩

theorem Writes.more {B : Nat} {w w' : World} {a ra : Nat} {v rv : Value} {bs : List Int} (h : Writes B w a v ra rv bs 65536 w') : Writes B w a v ra rv bs 1048576 w' := by
  obtain ⟨v', rv', bs', h1, h2, h3⟩ := h
  exact ⟨v', rv', bs', h1, by omega, h3⟩

/-- All but Bytes: what is answered is the document's. -/
theorem writes_plain (a : Nat) (v : Value) (ra : Nat) (rv : Value) (bs ys : List Int) (kind : Int) (two : Bool) (n x : Int) (ba : Option Addr) (bl bc : Nat) (lv : Value) (w0 w : World) (h : TW w0.heap.size w a v ra rv bs) (hlen : bs.length ≤ 1099511627776) (hx : Row8 w0 ba bl bc ys) (hbl : bl ≤ 1048576) (h0 : Chg (fun k => w0.heap.size ≤ k) w0 w) (hv : 0 ≤ x) (hv1 : x < 18446744073709551616) (hk : kind ≠ 6) :
    Calls Try.prog 23 #[.pointer (some ⟨a, 0, none⟩), .pointer (some ⟨ra, 0, none⟩), .agg #[.int .i64 kind, .bool two, .int .i64 n, .int .u64 x, .slice ba bl bc], lv] w fun e w' => e = .returned (.tuple #[lv, .bool true]) ∧ Writes w0.heap.size w a v ra rv bs 1048576 w' := by
  have hB := h0.size
  by_cases k1 : kind = 1
  · subst k1
    by_cases hn : n < 1 ∨ 8 < n
    · exact (writes_low_no _ a v ra rv bs two n x ba bl bc lv w h hB hlen hn).mono fun _ _ ⟨e, f⟩ => ⟨e, f.more⟩
    · obtain ⟨m, rfl⟩ := Int.eq_ofNat_of_zero_le (show 0 ≤ n by omega)
      exact (writes_low_yes _ a v ra rv bs two m x ba bl bc lv w h hB hlen (by omega) (by omega) hv hv1).mono fun _ _ ⟨e, f⟩ => ⟨e, f.more⟩
  by_cases k2 : kind = 2
  · subst k2
    by_cases hn : n < 1 ∨ 8 < n
    · exact (writes_high_no _ a v ra rv bs two n x ba bl bc lv w h hB hlen hn).mono fun _ _ ⟨e, f⟩ => ⟨e, f.more⟩
    · obtain ⟨m, rfl⟩ := Int.eq_ofNat_of_zero_le (show 0 ≤ n by omega)
      exact (writes_high_yes _ a v ra rv bs two m x ba bl bc lv w h hB hlen (by omega) (by omega) hv hv1).mono fun _ _ ⟨e, f⟩ => ⟨e, f.more⟩
  by_cases k3 : kind = 3
  · subst k3
    exact writes_put a v ra rv bs ys two n x ba bl bc lv w0 w h hlen hx hbl h0
  by_cases k4 : kind = 4
  · subst k4
    by_cases hn : n < 0 ∨ 65536 < n
    · exact (writes_zeros_no _ a v ra rv bs two n x ba bl bc lv w h hB hlen hn).mono fun _ _ ⟨e, f⟩ => ⟨e, f.more⟩
    · obtain ⟨m, rfl⟩ := Int.eq_ofNat_of_zero_le (show 0 ≤ n by omega)
      exact (writes_zeros_yes _ a v ra rv bs two m x ba bl bc lv w h hB hlen (by omega)).mono fun _ _ ⟨e, f⟩ => ⟨e, f.more⟩
  by_cases k5 : kind = 5
  · subst k5
    exact writes_len _ a v ra rv bs two n x ba bl bc lv w h
  exact writes_other _ a v ra rv bs kind two n x ba bl bc lv w h (beq_eq_false_iff_ne.2 k1) (beq_eq_false_iff_ne.2 k2) (beq_eq_false_iff_ne.2 k3) (beq_eq_false_iff_ne.2 k4) (beq_eq_false_iff_ne.2 k5) (beq_eq_false_iff_ne.2 hk)

/-- No list that is held lies in one of these blocks. -/
def Off (hs : List Hd) (S : Nat → Prop) : Prop := ∀ (i : Nat) (y : Hd), hs[i]? = some y → ∀ g, y.v.ownBlock = some g → ¬ S g

/-- The other pair of writers, as it stands beside the first and the book. -/
structure Beside (B : Nat) (w : World) (a : Nat) (v : Value) (ra : Nat) (rv : Value) (b : Nat) (u : Value) (rb : Nat) (ru : Value) (cs : List Int) (hs : List Hd) : Prop where
  tw : TW B w b u rb ru cs
  feet : ∀ k, Feet a v ra rv k → ¬ Feet b u rb ru k
  off : Off hs (Feet b u rb ru)

/-- Behind a call: both pairs of writers and the book. -/
def All (B : Nat) (w : World) (a : Nat) (v : Value) (ra : Nat) (rv : Value) (bs : List Int) (b : Nat) (u : Value) (rb : Nat) (ru : Value) (cs : List Int) (lv : Value) (hs : List Hd) : Prop :=
  TW B w a v ra rv bs ∧ TW B w b u rb ru cs ∧ (∀ k, Feet a v ra rv k → ¬ Feet b u rb ru k) ∧ Bk B w lv hs ∧ Off hs (Feet a v ra rv) ∧ Off hs (Feet b u rb ru)

theorem All.swap {B : Nat} {w : World} {a ra b rb : Nat} {v rv u ru lv : Value} {bs cs : List Int} {hs : List Hd} (h : All B w a v ra rv bs b u rb ru cs lv hs) : All B w b u rb ru cs a v ra rv bs lv hs := by
  obtain ⟨h1, h2, h3, h4, h5, h6⟩ := h
  exact ⟨h2, h1, fun k f g => h3 k g f, h4, h6, h5⟩
theorem All.new {B : Nat} {w w' : World} {a ra b rb : Nat} {v rv u ru lv : Value} {bs cs : List Int} {hs : List Hd} (h : All B w a v ra rv bs b u rb ru cs lv hs) (hc : Chg (fun _ => False) w w') : All B w' a v ra rv bs b u rb ru cs lv hs := by
  obtain ⟨h1, h2, h3, h4, h5, h6⟩ := h
  exact ⟨h1.new hc, h2.new hc, h3, h4.new hc, h5, h6⟩

theorem feet_moved {w : World} {a ra : Nat} {v rv v' rv' : Value} (m1 : Moved w v v') (m2 : Moved w rv rv') : ∀ k, Feet a v' ra rv' k → Feet a v ra rv k ∨ w.heap.size ≤ k := by
  intro k f
  rcases f with f | f
  · rcases m1.foot a k f with f | f
    · exact .inl (.inl f)
    · exact .inr f
  · rcases m2.foot ra k f with f | f
    · exact .inl (.inr f)
    · exact .inr f

theorem writes_any (a : Nat) (v : Value) (ra : Nat) (rv : Value) (bs : List Int) (b : Nat) (u : Value) (rb : Nat) (ru : Value) (cs ys : List Int) (kind : Int) (two : Bool) (n x : Int) (ba : Option Addr) (bl bc : Nat) (lv : Value) (hs : List Hd) (w0 w : World)
    (h : All w0.heap.size w a v ra rv bs b u rb ru cs lv hs) (hlen : bs.length ≤ 1099511627776) (hx : Row8 w0 ba bl bc ys) (hbl : bl ≤ 1048576) (h0 : Chg (fun k => w0.heap.size ≤ k) w0 w) (hv : 0 ≤ x) (hv1 : x < 18446744073709551616) (hhs : hs.length ≤ 16777216) :
    Calls Try.prog 23 #[.pointer (some ⟨a, 0, none⟩), .pointer (some ⟨ra, 0, none⟩), .agg #[.int .i64 kind, .bool two, .int .i64 n, .int .u64 x, .slice ba bl bc], lv] w fun e w' => ∃ lv', e = .returned (.tuple #[lv', .bool true]) ∧
      ∃ v' rv' bs' hs', All w0.heap.size w' a v' ra rv' bs' b u rb ru cs lv' hs' ∧ bs'.length ≤ bs.length + 1048576 ∧ hs'.length ≤ hs.length + 2 ∧ Chg (fun k => w0.heap.size ≤ k) w0 w' := by
  obtain ⟨h1, h2, h3, h4, h5, h6⟩ := h
  by_cases hk : kind = 6
  · subst hk
    refine (writes_bytes _ a v ra rv bs two n x ba bl bc lv hs w h1 h0.size hlen h4 hhs).mono ?_
    rintro e w' ⟨lv', q1, q2, rfl, hT, hB, hn1, hn2, hC, hM⟩
    have off : ∀ S : Nat → Prop, Off hs S → (∀ k, S k → k < w.heap.size) → Off (hs ++ [q1] ++ [q2]) S := by
      intro S hS hlt i y e g hg f
      have hm := List.mem_of_getElem? e
      simp only [List.mem_append, List.mem_singleton] at hm
      rcases hm with (hm | hm) | hm
      · obtain ⟨j, hj⟩ := List.mem_iff_getElem?.1 hm
        exact hS j y hj g hg f
      · subst hm; have := hn1 g hg; have := hlt g f; omega
      · subst hm; have := hn2 g hg; have := hlt g f; omega
    refine ⟨lv', rfl, v, rv, bs, hs ++ [q1] ++ [q2], ⟨hT, h2.keepS hC (fun k f e => h2.book h4.book k f e), h3, hB, off _ h5 (fun k f => (h1.lt k f).2), off _ h6 (fun k f => (h2.lt k f).2)⟩, by omega, by simp, h0.trans hC (fun k e => .inl (h4.book.lt k e).1)⟩
  · refine (writes_plain a v ra rv bs ys kind two n x ba bl bc lv w0 w h1 hlen hx hbl h0 hv hv1 hk).mono ?_
    rintro e w' ⟨rfl, v', rv', bs', hT, hl, hC, m1, m2⟩
    have hfm := feet_moved (a := a) (ra := ra) m1 m2
    refine ⟨lv, rfl, v', rv', bs', hs, ⟨hT, h2.keepS hC (fun k f e => h3 k e f), fun k f g => ?_, ?_, fun i y e g hg f => ?_, h6⟩, hl, by omega, h0.trans hC (fun k f => .inl (h1.lt k f).1)⟩
    · rcases hfm k f with f | f
      · exact h3 k f g
      · have := (h2.lt k g).2; omega
    · exact ⟨own_keep h4.book hC (fun g e f => h1.book h4.book g f e), rows_keep h4.rows hC (fun i y e g hg f => h5 i y e g hg f), h4.apart, h4.ok, h4.small⟩
    · rcases hfm g f with f | f
      · exact h5 i y e g hg f
      · have := ((h4.rows i y e).lt hg).2; omega

end Go.Proofs.Ytgfibbabfpphpaa
