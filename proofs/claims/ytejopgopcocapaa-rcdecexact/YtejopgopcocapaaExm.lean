/- The document's decoder and the program's, side by side; of no statement by itself. -/
import Derived.Test.YtejopgopcocapaaKn
import Derived.Test.YtejopgopcocapaaLastQ
namespace Go.Proofs.Ytejopgopcocapaa
open Go.RowKit
set_option linter.unusedVariables false

/-- What a question to the document's decoder may change. -/
def Fr (r : Nat) (t : Value) (z : Nat) : Prop := z = r ∨ t.ownBlock = some z
theorem rdbit_A (B B' r s : Nat) (m : Int) (v t : Value) (xs : List Int) (i : Int) (bs : List Nat) (d : Rc.D) (w : World) (h : Rdc w B r v bs d) (hO : OkD bs d) (hS : Rt w B' s m t xs) (hI : In31 xs) (hl : bs.length ≤ 140737488355328) (hB : B ≤ w.heap.size) :
    Calls Try.prog 23 #[.pointer (some ⟨r, 0, none⟩), .pointer (some ⟨s, 0, none⟩), .int .i64 i] w fun x w' =>
      (∃ e : Nat, decA bs ⟨false, i, 0, 0⟩ d xs = .error e ∧ x = .returned (.tuple #[.int .i64 0, .int .i64 (e : Int)]) ∧ Rdc w' B r v bs d ∧ Rt w' B' s m t xs ∧ Chg (Fr r t) w w')
      ∨ (∃ b d' xs', decA bs ⟨false, i, 0, 0⟩ d xs = .ok (b, d', xs') ∧ x = .returned (.tuple #[.int .i64 (b : Int), .int .i64 0]) ∧ Rdc w' B r v bs d' ∧ Rt w' B' s m t xs' ∧ Chg (Fr r t) w w') := by
  by_cases hi : 0 ≤ i ∧ i < (xs.length : Int)
  · obtain ⟨j, rfl⟩ : ∃ j : Nat, (j : Int) = i := ⟨i.toNat, by omega⟩
    have hj : j < xs.length := by omega
    have hok : (⟨false, (j : Int), 0, 0⟩ : Q).ok xs.length := by unfold Q.ok; rw [if_neg (fun f => by cases f)]; exact hi
    have hp : pAt xs (j : Int) = xs[j] := by unfold pAt; simp [hj]
    refine (rdbit_in B B' r s m v t xs j bs d w h hO hS hI hj hl hB).mono fun x w' hx => ?_
    rcases hx with ⟨d', h1, h2, h3, h4, h5⟩ | ⟨h1, h2, h3⟩
    · refine .inr ⟨(bt (Rc.oneD d (d.R / 2048 * xs[j].toNat))).toNat, d', _, ?_, ?_, h3, h4, h5⟩
      · unfold decA
        rw [if_pos hok]
        simp only [Bool.false_eq_true, if_false]
        rw [hp, h1]
        simp only [pSet, hp, Int.toNat_natCast]
      · rw [h2]
        cases Rc.oneD d (d.R / 2048 * xs[j].toNat) <;> rfl
    · refine .inl ⟨1, ?_, h2, h.new h3, hS.new h3, h3.mono (fun _ f => f.elim)⟩
      unfold decA
      rw [if_pos hok]
      simp only [Bool.false_eq_true, if_false]
      rw [hp, h1]
  · have hok : ¬ (⟨false, i, 0, 0⟩ : Q).ok xs.length := by unfold Q.ok; rw [if_neg (fun f => by cases f)]; exact hi
    refine (rdbit_out B' s m t _ xs i w hS (by omega)).mono fun x w' ⟨h1, h2⟩ => .inl ⟨7, ?_, h1, by rw [← h2]; exact h, by rw [← h2]; exact hS, by rw [← h2]; exact Chg.refl _ _⟩
    unfold decA
    rw [if_neg hok]
theorem rddir_A (B r : Nat) (v : Value) (n : Int) (bs : List Nat) (d : Rc.D) (w : World) (h : Rdc w B r v bs d) (hO : OkD bs d) (hl : bs.length ≤ 140737488355328) (hB : B ≤ w.heap.size) :
    Calls Try.prog 22 #[.pointer (some ⟨r, 0, none⟩), .int .i64 n] w fun x w' =>
      (∃ e : Nat, decA bs ⟨true, 0, n, 0⟩ d [] = .error e ∧ x = .returned (.tuple #[.int .u32 0, .int .i64 (e : Int)]) ∧ Rdc w' B r v bs d ∧ Chg (fun z => z = r) w w')
      ∨ (∃ b d', decA bs ⟨true, 0, n, 0⟩ d [] = .ok (b, d', []) ∧ x = .returned (.tuple #[.int .u32 (b : Int), .int .i64 0]) ∧ Rdc w' B r v bs d' ∧ Chg (fun z => z = r) w w') := by
  by_cases hn : 0 ≤ n ∧ n ≤ 32
  · obtain ⟨m, rfl⟩ : ∃ m : Nat, (m : Int) = n := ⟨n.toNat, by omega⟩
    have hok : (⟨true, 0, (m : Int), 0⟩ : Q).ok ([] : List Int).length := by unfold Q.ok; rw [if_pos rfl]; exact hn
    refine (rddirect_in B r v bs d m w h hO (by omega) hl hB).mono fun x w' hx => ?_
    rcases hx with ⟨e, h1, h2, h3⟩ | ⟨b, d', h1, _, _, h2, h3, h4⟩
    · refine .inl ⟨e, ?_, h2, h.new h3, h3.mono (fun _ f => f.elim)⟩
      unfold decA
      rw [if_pos hok]
      simp only [if_true, Int.toNat_natCast]
      rw [h1]
    · refine .inr ⟨b, d', ?_, h2, h3, h4⟩
      unfold decA
      rw [if_pos hok]
      simp only [if_true, Int.toNat_natCast]
      rw [h1]
  · have hok : ¬ (⟨true, 0, n, 0⟩ : Q).ok ([] : List Int).length := by unfold Q.ok; rw [if_pos rfl]; exact hn
    refine (rddirect_out _ n w (by omega)).mono fun x w' ⟨h1, h2⟩ => .inl ⟨7, ?_, h1, by rw [← h2]; exact h, by rw [← h2]; exact Chg.refl _ _⟩
    unfold decA
    exact if_neg hok

/-- New of both. -/
theorem both_bad {Dec : World → Nat → Nat → Value → List Nat → Rc.D → Prop} (S : DecSpec Dec) {bs : List Nat} (hdig : Rc.Dig bs) (h : ¬ (5 ≤ bs.length ∧ bs.getD 0 0 = 0 ∧ Rc.code5 bs < 4294967295)) : ∃ e : Int, e ≠ 0 ∧ (∀ ad n c w, Row8 w ad n c (nums bs) → n ≤ 140737488355328 → Calls Try.prog 9 #[.slice ad n c] w fun x w' => x = .returned (.tuple #[.pointer none, .int .i64 e]) ∧ Chg (fun _ => False) w w') ∧ (∀ ad n c w, Row8 w ad n c (nums bs) → n ≤ 140737488355328 → Calls Try.prog 20 #[.slice ad n c] w fun x w' => x = .returned (.tuple #[.pointer none, .int .i64 e]) ∧ w = w') := by
  have hl : ∀ {w ad n c}, Row8 w ad n c (nums bs) → bs.length = n := fun h => by have := h.1; rw [nums_len] at this; exact this
  by_cases h5 : bs.length < 5
  · refine ⟨1, by decide, fun ad n c w hr hn => (S.new ad n c bs w hr hdig hn).mono ?_, fun ad n c w hr hn => ref8new_short ad n c w (by have := hl hr; omega)⟩
    rintro x w' (⟨_, h2, h3⟩ | ⟨h1, _⟩ | ⟨h1, _⟩)
    · exact ⟨h2, h3⟩
    · omega
    · omega
  · refine ⟨2, by decide, fun ad n c w hr hn => (S.new ad n c bs w hr hdig hn).mono ?_, fun ad n c w hr hn => (ref8new_long ad n c bs w hr hdig (by have := hl hr; omega) hn).mono ?_⟩
    · rintro x w' (⟨h1, _⟩ | ⟨_, _, h2, h3⟩ | ⟨h1, h2, h3, _⟩)
      · omega
      · exact ⟨h2, h3⟩
      · exact absurd ⟨h1, h2, h3⟩ h
    · rintro x w' (⟨_, h2, h3⟩ | ⟨h2, h3, _⟩)
      · exact ⟨h2, h3⟩
      · exact absurd ⟨by omega, h2, h3⟩ h
theorem prog_good {Dec : World → Nat → Nat → Value → List Nat → Rc.D → Prop} (S : DecSpec Dec) {bs : List Nat} (hdig : Rc.Dig bs) (h : 5 ≤ bs.length ∧ bs.getD 0 0 = 0 ∧ Rc.code5 bs < 4294967295) (ad : Option Addr) (n c : Nat) (w : World) (hr : Row8 w ad n c (nums bs)) (hn : n ≤ 140737488355328) : Calls Try.prog 9 #[.slice ad n c] w fun x w' => ∃ r v, x = .returned (.tuple #[.pointer (some ⟨r, 0, none⟩), .int .i64 0]) ∧ Dec w' w.heap.size r v bs ⟨5, 4294967295, Rc.code5 bs⟩ ∧ Chg (fun _ => False) w w' := by
  refine (S.new ad n c bs w hr hdig hn).mono ?_
  rintro x w' (⟨h1, _⟩ | ⟨_, h1, _⟩ | ⟨_, _, _, h2⟩)
  · omega
  · rcases h1 with h1 | h1
    · exact absurd h.2.1 h1
    · omega
  · exact h2
theorem ref_good {bs : List Nat} (hdig : Rc.Dig bs) (h : 5 ≤ bs.length ∧ bs.getD 0 0 = 0 ∧ Rc.code5 bs < 4294967295) (ad : Option Addr) (n c : Nat) (w : World) (hr : Row8 w ad n c (nums bs)) (hn : n ≤ 140737488355328) : Calls Try.prog 20 #[.slice ad n c] w fun x w' => ∃ r v, x = .returned (.tuple #[.pointer (some ⟨r, 0, none⟩), .int .i64 0]) ∧ Rdc w' w.heap.size r v bs ⟨5, 4294967295, Rc.code5 bs⟩ ∧ Chg (fun _ => False) w w' := by
  have hl : bs.length = n := by have := hr.1; rw [nums_len] at this; exact this
  refine (ref8new_long ad n c bs w hr hdig (by omega) hn).mono ?_
  rintro x w' (⟨h1, _⟩ | ⟨_, _, r, v, h2, _, h3, h4⟩)
  · rcases h1 with h1 | h1
    · exact absurd h.2.1 h1
    · omega
  · exact ⟨r, v, h2, h3, h4⟩

/-- Both decoders under way. -/
structure Both (Dec : World → Nat → Nat → Value → List Nat → Rc.D → Prop) (w0 wr : World) (B1 B2 B3 B4 a s r t : Nat) (m : Int) (v u y o : Value) (bs : List Nat) (d : Rc.D) (xs : List Int) : Prop where
  dec : Dec wr B1 a v bs d
  st : St wr B2 s u xs
  rdc : Rdc wr B3 r y bs d
  rt : Rt wr B4 t m o xs
  ok : OkD bs d
  inn : In31 xs
  big : B1 ≤ wr.heap.size ∧ B3 ≤ wr.heap.size
  low : w0.heap.size ≤ B1 ∧ w0.heap.size ≤ B2 ∧ w0.heap.size ≤ B3 ∧ w0.heap.size ≤ B4
  chg : Chg (fun _ => False) w0 wr
section
variable {Dec : World → Nat → Nat → Value → List Nat → Rc.D → Prop} {w0 wr w' : World} {B1 B2 B3 B4 a s r t : Nat} {m : Int} {v u y o : Value} {bs : List Nat} {d d' : Rc.D} {xs xs' : List Int}
theorem Both.new (S : DecSpec Dec) (h : Both Dec w0 wr B1 B2 B3 B4 a s r t m v u y o bs d xs) (hc : Chg (fun _ => False) wr w') : Both Dec w0 w' B1 B2 B3 B4 a s r t m v u y o bs d xs :=
  ⟨S.keep h.dec hc (fun f => f) (fun _ _ f => f), h.st.new hc, h.rdc.new hc, h.rt.new hc, h.ok, h.inn, ⟨Nat.le_trans h.big.1 hc.size, Nat.le_trans h.big.2 hc.size⟩, h.low, chg_then h.chg hc⟩
/-- The program's was asked. -/
theorem Both.prog (S : DecSpec Dec) (h : Both Dec w0 wr B1 B2 B3 B4 a s r t m v u y o bs d xs) (hc : Chg (Fd a u) wr w') : Rdc w' B3 r y bs d ∧ Rt w' B4 t m o xs ∧ Chg (fun _ => False) w0 w' := by
  obtain ⟨cs, hb⟩ := S.blk h.dec
  refine ⟨h.rdc.keep hc (fun f => ?_) (fun g e f => ?_), h.rt.keep hc (fun f => ?_) (fun g e f => ?_), h.chg.trans hc (fun z f => .inr ?_)⟩
  · rcases f with f | f
    · rw [← f] at hb; exact ty_ne hb h.rdc.blk (by decide)
    · obtain ⟨c, hcu⟩ := owns_blk h.st.own f; exact ty_ne hcu h.rdc.blk (by decide)
  · obtain ⟨c1, h1⟩ := owns_blk h.rdc.own e
    rcases f with f | f
    · rw [← f] at hb; exact ty_ne hb h1 (by decide)
    · obtain ⟨c, hcu⟩ := owns_blk h.st.own f; exact ty_ne hcu h1 (by decide)
  · rcases f with f | f
    · rw [← f] at hb; exact ty_ne hb h.rt.blk (by decide)
    · obtain ⟨c, hcu⟩ := owns_blk h.st.own f; exact ty_ne hcu h.rt.blk (by decide)
  · obtain ⟨c1, h1⟩ := owns_blk h.rt.own e
    rcases f with f | f
    · rw [← f] at hb; exact ty_ne hb h1 (by decide)
    · obtain ⟨c, hcu⟩ := owns_blk h.st.own f; exact ty_ne hcu h1 (by decide)
  · rcases f with f | f
    · rw [f]; exact Nat.le_trans h.low.1 (S.base h.dec)
    · exact Nat.le_trans h.low.2.1 (h.st.own.lt z f).1
/-- The document's was asked. -/
theorem ref_keep (S : DecSpec Dec) (hD : Dec wr B1 a v bs d') (hS : St wr B2 s u xs') (hR : Rdc wr B3 r y bs d) (hT : Rt wr B4 t m o xs) (hc : Chg (Fr r o) wr w') : Dec w' B1 a v bs d' ∧ St w' B2 s u xs' := by
  obtain ⟨cs, hb⟩ := S.blk hD
  refine ⟨S.keep hD hc (fun f => ?_) (fun g e f => ?_), hS.keep hc (fun f => ?_) (fun g e f => ?_)⟩
  · rcases f with f | f
    · rw [f] at hb; exact ty_ne hb hR.blk (by decide)
    · obtain ⟨c, hcu⟩ := owns_blk hT.own f; exact ty_ne hcu hb (by decide)
  · obtain ⟨c1, h1⟩ := owns_blk (S.own hD) e
    rcases f with f | f
    · rw [f] at h1; exact ty_ne hR.blk h1 (by decide)
    · obtain ⟨c, hcu⟩ := owns_blk hT.own f; exact ty_ne hcu h1 (by decide)
  · rcases f with f | f
    · have h9 := hS.blk; rw [f] at h9; exact ty_ne h9 hR.blk (by decide)
    · obtain ⟨c, hcu⟩ := owns_blk hT.own f; exact ty_ne hcu hS.blk (by decide)
  · obtain ⟨c1, h1⟩ := owns_blk hS.own e
    rcases f with f | f
    · rw [f] at h1; exact ty_ne h1 hR.blk (by decide)
    · obtain ⟨c, hcu⟩ := owns_blk hT.own f; exact ty_ne hcu h1 (by decide)
end
end Go.Proofs.Ytejopgopcocapaa
