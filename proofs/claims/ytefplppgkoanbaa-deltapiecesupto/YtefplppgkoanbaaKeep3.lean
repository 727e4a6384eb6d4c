/- The book, kept while a walk goes on; the contract of hold; of no statement by itself. -/
import Derived.Test.YtefplppgkoanbaaHeld3
namespace Go.Proofs.Ytefplppgkoanbaa.Bk
open Go.RowKit

/-- The book of the lists that are held. -/
structure Bk (B : Nat) (w : World) (lv : Value) (hs : List Hd) : Prop where
  book : w.ownsRow B 49 5 lv hs.length (hcells hs)
  rows : RowsIn B w hs
  apart : Apart hs
  ok : ∀ h ∈ hs, h.ok
  small : ∀ h ∈ hs, h.n ≤ 140737488351232

theorem Bk.nil (B : Nat) (w : World) : Bk B w (.slice none 0 0) [] :=
  ⟨World.ownsRow_nil _ _ _ _, fun i h e => by simp at e, fun i j a b e => by simp at e, fun h e => by simp at e, fun h e => by simp at e⟩

theorem Bk.keep {B : Nat} {w w' : World} {lv : Value} {hs : List Hd} {S : Nat → Prop} (h : Bk B w lv hs) (hc : Chg S w w') (h1 : ∀ g, lv.ownBlock = some g → ¬ S g) (h2 : ∀ g cur, w.heap[g]? = some (.cells cur 5 (0, 0)) → ¬ S g) : Bk B w' lv hs :=
  ⟨own_keep h.book hc h1, rows_keep h.rows hc (fun i a e g hg => by obtain ⟨cur, hb⟩ := own_blk (h.rows i a e) hg; exact h2 g cur hb), h.apart, h.ok, h.small⟩
theorem Bk.new {B : Nat} {w w' : World} {lv : Value} {hs : List Hd} (h : Bk B w lv hs) (hc : Chg (fun _ => False) w w') : Bk B w' lv hs := h.keep hc (fun _ _ f => f) (fun _ _ _ f => f)

/-- The book with one list more: the list's row is a new one, the book lies where it lay or in new memory. -/
theorem Bk.push {B : Nat} {w w2 w3 : World} {lv lv' : Value} {hs : List Hd} {h : Hd} {o : Obj} (hb : Bk B w lv hs) (hb2 : Bk B w2 lv hs) (hr : Row B w2 h) (hnew : ∀ g, h.v.ownBlock = some g → w.heap.size ≤ g) (hok : h.ok) (hn : h.n ≤ 140737488351232)
    (hown : w3.ownsRow B 49 5 lv' (hs.length + 1) (hcells hs ++ h.cells)) (hg : (w2.alloc o).grownBy w3 lv.ownBlock) : Bk B w3 lv' (hs ++ [h]) := by
  have hc : Chg (fun k => lv.ownBlock = some k) w2 w3 := ((Chg.refl _ w2).alloc o).grown hg (fun k e => .inl e)
  have hget : ∀ (i : Nat) (a : Hd), (hs ++ [h])[i]? = some a → i < hs.length ∧ hs[i]? = some a ∨ i = hs.length ∧ a = h := fun i a e => by
    by_cases hi : i < hs.length
    · rw [List.getElem?_append_left hi] at e; exact .inl ⟨hi, e⟩
    · rw [List.getElem?_append_right (by omega)] at e
      by_cases hi2 : i = hs.length
      · subst hi2; simp at e; exact .inr ⟨rfl, e.symm⟩
      · rw [List.getElem?_eq_none (by simp; omega)] at e; cases e
  refine ⟨?_, fun i a e => ?_, fun i j a b ei ej hij g hg1 hg2 => ?_, fun a ha => ?_, fun a ha => ?_⟩
  · rw [List.length_append, hcells_append]
    simpa [hcells] using hown
  · rcases hget i a e with ⟨_, e'⟩ | ⟨_, rfl⟩
    · exact ownsRow_keep (hb2.rows i a e') hc (fun g hg f => book_ne hb2.book (hb2.rows i a e') f hg)
    · exact ownsRow_keep hr hc (fun g hg f => book_ne hb2.book hr f hg)
  · rcases hget i a ei with ⟨_, ei'⟩ | ⟨hi, rfl⟩
    · rcases hget j b ej with ⟨_, ej'⟩ | ⟨hj, rfl⟩
      · exact hb.apart i j a b ei' ej' hij g hg1 hg2
      · have h1 := (hb.rows i a ei').lt hg1
        have h2 := hnew g hg2
        omega
    · rcases hget j b ej with ⟨_, ej'⟩ | ⟨hj, rfl⟩
      · have h1 := (hb.rows j b ej').lt hg2
        have h2 := hnew g hg1
        omega
      · omega
  · rcases List.mem_append.1 ha with e | e
    · exact hb.ok a e
    · simp at e; subst e; exact hok
  · rcases List.mem_append.1 ha with e | e
    · exact hb.small a e
    · simp at e; subst e; exact hn

/-- What 'hold' leaves. -/
theorem hold_any (B : Nat) (v : Value) (xs : List Int) (n k : Nat) (w : World) (hn : n ≤ 140737488351232) (h : w.ownsRow B 5 1 v n (cells8 xs)) (hB : B ≤ w.heap.size) (hk : k ≤ 1000000000) :
    Calls Try.prog 18 #[v, .int .i64 k] w fun e w' => ∃ (h' : Hd) (va : Option Addr) (vc : Nat), e = .returned (.agg #[.slice va h'.ys.length vc, .int .i64 h'.n, .int .u8 h'.mark, .string h'.want, .bool h'.kept]) ∧ h'.v = .slice va h'.ys.length vc ∧ h'.ok ∧ h'.n = n ∧ Row B w' h' ∧ Chg (fun b => v.ownBlock = some b) w w' ∧ Moved w v h'.v := by
  have hxl : xs.length = n := by simpa [cells8] using h.1
  by_cases hev : k % 2 = 0
  · refine (hold_even B v xs n k w h hk hev).mono fun e w' ⟨he, hc⟩ => ?_
    have hrow : Row B w' ⟨v, n, holdMark k, strOfNums xs, true, xs⟩ := by unfold Row; simp only; rw [hxl]; exact ownsRow_keep h hc (fun _ _ f => f)
    obtain ⟨va, vc, hva, _⟩ := own_row8 hrow
    refine ⟨⟨v, n, holdMark k, strOfNums xs, true, xs⟩, va, vc, ?_, hva, .inl ⟨rfl, hxl, rfl⟩, rfl, hrow, hc.mono (fun _ f => f.elim), Moved.refl _ _⟩
    rw [he]
    simp only at hva
    simp only [hva]
  · refine (hold_odd B v xs n k w (by omega) hxl h hB hk (by omega)).mono fun e w' ⟨v', he, ho, hc, hm⟩ => ?_
    have hrow : Row B w' ⟨v', n, holdMark k, strOfNums xs, false, List.replicate (n + 3) (holdMark k)⟩ := by unfold Row; simp only [List.length_replicate]; exact ho
    obtain ⟨va, vc, hva, _⟩ := own_row8 hrow
    refine ⟨⟨v', n, holdMark k, strOfNums xs, false, List.replicate (n + 3) (holdMark k)⟩, va, vc, ?_, hva, .inr ⟨rfl, rfl⟩, rfl, hrow, hc, hm⟩
    rw [he]
    simp only at hva
    simp only [hva]

end Go.Proofs.Ytefplppgkoanbaa.Bk
