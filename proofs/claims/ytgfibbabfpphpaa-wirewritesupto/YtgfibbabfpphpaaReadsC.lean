/- The contract of the statements' own function reads at Take, of no statement by itself; the book of what is held grows by one list. -/
import Derived.Test.YtgfibbabfpphpaaReadsB
namespace Go.Proofs.Ytgfibbabfpphpaa
open Go.RowKit

/-- The book of the lists that are held. -/
structure Bk (B : Nat) (w : World) (lv : Value) (hs : List Hd) : Prop where
  book : w.ownsRow B 81 5 lv hs.length (hcells hs)
  rows : RowsIn B w hs
  apart : Apart hs
  ok : ∀ h ∈ hs, h.ok
  small : ∀ h ∈ hs, h.n ≤ 1099511627776

theorem Bk.nil (B : Nat) (w : World) : Bk B w (.slice none 0 0) [] :=
  ⟨World.ownsRow_nil _ _ _ _, fun i h e => by simp at e, fun i j a b e => by simp at e, fun h e => by simp at e, fun h e => by simp at e⟩

theorem Bk.keep {B : Nat} {w w' : World} {lv : Value} {hs : List Hd} {S : Nat → Prop} (h : Bk B w lv hs) (hc : Chg S w w') (h1 : ∀ g, lv.ownBlock = some g → ¬ S g) (h2 : ∀ g cur, w.heap[g]? = some (.cells cur 5 (0, 0)) → ¬ S g) : Bk B w' lv hs :=
  ⟨own_keep h.book hc h1, rows_keep h.rows hc (fun i a e g hg => by obtain ⟨cur, hb⟩ := own_blk (h.rows i a e) hg; exact h2 g cur hb), h.apart, h.ok, h.small⟩
theorem Bk.new {B : Nat} {w w' : World} {lv : Value} {hs : List Hd} (h : Bk B w lv hs) (hc : Chg (fun _ => False) w w') : Bk B w' lv hs := h.keep hc (fun _ _ f => f) (fun _ _ _ f => f)

/-- The book with one list more: the list's row is a new one, the book lies where it lay or in new memory. -/
theorem Bk.push {B : Nat} {w w2 w3 : World} {lv lv' : Value} {hs : List Hd} {h : Hd} {o : Obj} (hb : Bk B w lv hs) (hb2 : Bk B w2 lv hs) (hr : Row B w2 h) (hnew : ∀ g, h.v.ownBlock = some g → w.heap.size ≤ g) (hok : h.ok) (hn : h.n ≤ 1099511627776)
    (hown : w3.ownsRow B 81 5 lv' (hs.length + 1) (hcells hs ++ h.cells)) (hg : (w2.alloc o).grownBy w3 lv.ownBlock) : Bk B w3 lv' (hs ++ [h]) := by
  have hc : Chg (fun k => lv.ownBlock = some k) w2 w3 := ((Chg.refl _ w2).alloc o).grown hg (fun k e => .inl e)
  have hget : ∀ (i : Nat) (a : Hd), (hs ++ [h])[i]? = some a → i < hs.length ∧ hs[i]? = some a ∨ i = hs.length ∧ a = h := fun i a e => by
    by_cases hi : i < hs.length
    · rw [List.getElem?_append_left hi] at e; exact .inl ⟨hi, e⟩
    · rw [List.getElem?_append_right (by omega)] at e
      by_cases hi2 : i = hs.length
      · subst hi2; simp at e; exact .inr ⟨rfl, e.symm⟩
      · rw [List.getElem?_eq_none (by simp; omega)] at e; cases e
  refine ⟨?_, fun i a e => ?_, fun i j a b ei ej hij g hg1 hg2 => ?_, fun a ha => ?_, fun a ha => ?_⟩
  · rw [List.length_append, hcells_append]
    simpa [hcells] using hown
  · rcases hget i a e with ⟨_, e'⟩ | ⟨_, rfl⟩
    · exact ownsRow_keep (hb2.rows i a e') hc (fun g hg f => book_ne hb2.book (hb2.rows i a e') f hg)
    · exact ownsRow_keep hr hc (fun g hg f => book_ne hb2.book hr f hg)
  · rcases hget i a ei with ⟨_, ei'⟩ | ⟨hi, rfl⟩
    · rcases hget j b ej with ⟨_, ej'⟩ | ⟨hj, rfl⟩
      · exact hb.apart i j a b ei' ej' hij g hg1 hg2
      · have h1 := (hb.rows i a ei').lt hg1
        have h2 := hnew g hg2
        omega
    · rcases hget j b ej with ⟨_, ej'⟩ | ⟨hj, rfl⟩
      · have h1 := (hb.rows j b ej').lt hg2
        have h2 := hnew g hg1
        omega
      · omega
  · rcases List.mem_append.1 ha with e | e
    · exact hb.ok a e
    · simp at e; subst e; exact hok
  · rcases List.mem_append.1 ha with e | e
    · exact hb.small a e
    · simp at e; subst e; exact hn

/-- What 'hold' leaves. -/
theorem hold_any (B : Nat) (v : Value) (xs : List Int) (n k : Nat) (w : World) (hn : n ≤ 1099511627776) (h : w.ownsRow B 5 1 v n (cells8 xs)) (hB : B ≤ w.heap.size) (hk : k ≤ 1000000000) :
    Calls Try.prog 42 #[v, .int .i64 k] w fun e w' => ∃ (h' : Hd) (va : Option Addr) (vc : Nat), e = .returned (.agg #[.slice va h'.ys.length vc, .int .i64 h'.n, .int .u8 h'.mark, .string h'.want, .bool h'.kept]) ∧ h'.v = .slice va h'.ys.length vc ∧ h'.ok ∧ h'.n = n ∧ Row B w' h' ∧ Chg (fun b => v.ownBlock = some b) w w' ∧ Moved w v h'.v := by
  have hxl : xs.length = n := by simpa [cells8] using h.1
  by_cases hev : k % 2 = 0
  · refine (hold_even B v xs n k w h hk hev).mono fun e w' ⟨he, hc⟩ => ?_
    have hrow : Row B w' ⟨v, n, holdMark k, strOfNums xs, true, xs⟩ := by unfold Row; simp only; rw [hxl]; exact ownsRow_keep h hc (fun _ _ f => f)
    obtain ⟨va, vc, hva, _⟩ := own_row8 hrow
    refine ⟨⟨v, n, holdMark k, strOfNums xs, true, xs⟩, va, vc, ?_, hva, .inl ⟨rfl, hxl, rfl⟩, rfl, hrow, hc.mono (fun _ f => f.elim), Moved.refl _ _⟩
    rw [he]
    simp only at hva
    simp only [hva]
  · refine (hold_odd B v xs n k w (by omega) hxl h hB hk (by omega)).mono fun e w' ⟨v', he, ho, hc, hm⟩ => ?_
    have hrow : Row B w' ⟨v', n, holdMark k, strOfNums xs, false, List.replicate (n + 3) (holdMark k)⟩ := by unfold Row; simp only [List.length_replicate]; exact ho
    obtain ⟨va, vc, hva, _⟩ := own_row8 hrow
    refine ⟨⟨v', n, holdMark k, strOfNums xs, false, List.replicate (n + 3) (holdMark k)⟩, va, vc, ?_, hva, .inr ⟨rfl, rfl⟩, rfl, hrow, hc, hm⟩
    rw [he]
    simp only at hva
    simp only [hva]

/-- A list that lies whole in its block is a row of its own. -/
theorem own_of_blk {w : World} {B q n : Nat} {ys : List Int} (h : w.heap[q]? = some (.cells (cells8 ys).toArray 5 (0, 0))) (hB : B ≤ q) (hn : ys.length = n) (hm : n ≤ 140737488355328) : w.ownsRow B 5 1 (.slice (some ⟨q, 0, none⟩) n n) n (cells8 ys) := by
  refine ⟨by simp [cells8, hn], .inr ⟨q, n, (cells8 ys).toArray, rfl, hB, h, Nat.le_refl _, by unfold maxLen; omega, by simp [cells8, hn], ?_⟩⟩
  rw [Nat.mul_one, List.take_of_length_le (by simp [cells8, hn])]

set_option maxRecDepth 100000 in
set_option maxHeartbeats 2000000 in
theorem reads_take_neg (B a g ra rg off : Nat) (xs : List Int) (two : Bool) (n v : Int) (ba : Option Addr) (bl bc : Nat) (lv : Value) (hs : List Hd) (w : World) (h : Two B w a g ra rg xs off) (hbk : Bk B w lv hs) (hB : B ≤ w.heap.size) (hlen : hs.length ≤ 16777216) (_hxs : xs.length ≤ 1099511627776) (hn : n < 0) :
    Calls Try.prog 30 #[.pointer (some ⟨a, 0, none⟩), .pointer (some ⟨ra, 0, none⟩), .agg #[.int .i64 6, .bool two, .int .i64 n, .int .u64 v, .slice ba bl bc], lv] w fun e w' => ∃ lv' h', e = .returned (.tuple #[lv', .bool true]) ∧ (∃ off', Two B w' a g ra rg xs off') ∧ Bk B w' lv' (hs ++ [h']) ∧ Chg (fun k => k = a ∨ k = ra ∨ lv.ownBlock = some k) w w' ∧ Moved w lv lv' := by
  obtain ⟨j0, hj, hj0, hj1, hj2⟩ := info_parts info81
  obtain ⟨n1, n2, n3, n4⟩ := h.ne
  have hlt := h.rd.lt.1
  have hglt := h.rd.lt.2
  obtain ⟨hralt, hrglt⟩ : ra < w.heap.size ∧ rg < w.heap.size := by obtain ⟨ad, c, hr⟩ := h.rr; exact hr.lt
  have hgl : lv.ownBlock ≠ some g := fun e => by
    obtain ⟨c1, h1⟩ := own_blk hbk.book e
    have h2 := h.rd.row
    rw [h1] at h2; simp at h2
  have hrgl : lv.ownBlock ≠ some rg := fun e => by
    obtain ⟨c1, h1⟩ := own_blk hbk.book e
    obtain ⟨ad, c, hr⟩ := h.rr
    obtain ⟨cur, h2, _⟩ := hr.row
    rw [h1] at h2; simp at h2
  have hla : ∀ b, lv.ownBlock = some b → b ≠ a ∧ b ≠ ra := fun b e => by
    obtain ⟨c1, h1⟩ := own_blk hbk.book e
    obtain ⟨ad, c, hr⟩ := h.rr
    have h2 := h.rd.blk
    have h3 := hr.blk
    refine ⟨fun f => ?_, fun f => ?_⟩
    · rw [f, h2] at h1; simp at h1
    · rw [f, h3] at h1; simp at h1
  have h5a : ∀ b cur, w.heap[b]? = some (.cells cur 5 (0, 0)) → b ≠ a ∧ b ≠ ra := fun b cur e => by
    obtain ⟨ad, c, hr⟩ := h.rr
    have h2 := h.rd.blk
    have h3 := hr.blk
    refine ⟨fun f => ?_, fun f => ?_⟩
    · rw [f, h2] at e; simp at e
    · rw [f, h3] at e; simp at e
  have hA := h.new (chg_one _ w (.cells #[.int .i64 6, .bool two, .int .i64 n, .int .u64 v, .slice ba bl bc] 47))
  obtain ⟨la, lc, hlv, _⟩ := book_form hbk.book
  subst hlv
  clear h
  go_enter Try.func30, Try.ntmps30
  go_wp2_with fail
  refine (take_neg _ _ _ _ _ _ _ hA.rd hn).mono ?_
  rintro e w2 ⟨rfl, hd, hc1⟩
  have hk2 := op_cell hc1 hlt
  obtain ⟨ad, c, hr⟩ := hA.rr
  have hr2 := hr.keep hc1 (fun e => n1 e.symm) n3
  have hW2 : Chg (fun k => k = a) w w2 := (chg_one _ w _).trans hc1 (fun _ e => .inl e)
  have hown2 : w2.ownsRow B 5 1 (.slice none 0 0) 0 (cells8 []) := World.ownsRow_nil _ _ _ _
  have hvn : ∀ b, (Value.slice none 0 0).ownBlock = some b → ¬ b = ra := fun b e => by simp [Value.ownBlock] at e
  have hvw : ∀ b, (Value.slice none 0 0).ownBlock = some b → w.heap.size ≤ b := fun b e => by simp [Value.ownBlock] at e
  clear hA hr
  go_wp2_with fail
  refine (refTake_neg _ _ _ _ _ _ _ _ _ hr2 hn).mono ?_
  rintro e w3 ⟨rfl, ⟨ad3, hr3⟩, hc3⟩
  have R := Two.both n1 n2 hd hc3 hr3
  have C : Chg (fun k => k = a ∨ k = ra) w w3 := (hW2.mono (fun _ e => .inl (.inl e))).trans hc3 (fun _ e => .inl (.inr e))
  have hv3 : w3.ownsRow B 5 1 (.slice none 0 0) 0 (cells8 []) := own_keep hown2 hc3 (fun b e f => hvn b e f)
  obtain ⟨xa, xc, hxe, hxr⟩ := own_row8 hv3
  have hcb := conv8_here hxr
  rw [← hxe] at hcb
  have hcc := conv8_here ((show Row8 w3 none 0 0 [] from ⟨rfl, .inl ⟨rfl, rfl, rfl⟩⟩))
  have hbk3 := hbk.keep C (fun b e f => by rcases f with f | f; exact (hla b e).1 f; exact (hla b e).2 f) (fun b cur e f => by rcases f with f | f; exact (h5a b cur e).1 f; exact (h5a b cur e).2 f)
  have hB3 : B ≤ w3.heap.size := Nat.le_trans hB C.size
  have hhold := hold_any B (.slice none 0 0) [] 0 hs.length _ (by omega) hv3 hB3 (by omega)
  have hnw : ∀ b, Value.ownBlock (.slice none 0 0) = some b → w.heap.size ≤ b := hvw
  clear hr2 hk2 hc1 hd hc3 hr3 hxr hxe hown2 hvn hvw hW2
  go_wp2_with fail
  refine hhold.mono ?_
  rintro e w4 ⟨h', va, vc, rfl, hva, hok, hhn, hrow, hc4, hm4⟩
  have hbk4 : Bk B w4 (.slice la hs.length lc) hs := ⟨own_keep hbk3.book hc4 (fun b e f => by
      obtain ⟨c1, h1⟩ := own_blk hbk3.book e
      obtain ⟨c2, h2⟩ := own_blk hv3 f
      rw [h1] at h2
      simp at h2), rows_keep hbk3.rows hc4 (fun i x e b hb f => by have := (hbk.rows i x e).lt hb; have := hnw b f; omega), hbk3.apart, hbk3.ok, hbk3.small⟩
  have R4 : Two B w4 a g ra rg xs _ := R.keep hc4 (fun f => by have := hnw _ f; omega) (fun f => by have := hnw _ f; have := hglt; omega) (fun f => by have := hnw _ f; have := hralt; omega) (fun f => by have := hnw _ f; have := hrglt; omega)
  have C4 : Chg (fun k => k = a ∨ k = ra) w w4 := C.trans hc4 (fun b e => .inr (hnw b e))
  have hnew : ∀ b, h'.v.ownBlock = some b → w.heap.size ≤ b := fun b e => by
    rcases hm4 b e with f | f
    · exact hnw b f
    · have := C.size; omega
  have hal := fun o => hbk4.book.alloc o
  have hB4 : B ≤ w4.heap.size := Nat.le_trans hB C4.size
  have HCE : Hid (h'.cells = [.slice va h'.ys.length vc, .int .i64 h'.n, .int .u8 h'.mark, .string h'.want, .bool h'.kept]) := by unfold Hid Hd.cells; rw [hva]
  have hhn2 : h'.n ≤ 1099511627776 := by rw [hhn]; exact (by omega)
  clear hhold hc4 hm4 R C hbk3 hcb hcc hv3 hva hhn
  go_wp2_with (at_builtin; refine wpList_append_moved rfl (.tmp 158) (.tmp 163) 45 rfl B 81 j0 (.agg #[.slice none 0 0, .int .i64 0, .int .u8 0, .string ⟨#[]⟩, .bool false]) 5 64 Try.underlying45 hj hj0 hj1 hj2 rfl (by decide) _ hs.length (hcells hs) rfl _ 1 1 rfl [.slice va h'.ys.length vc, .int .i64 h'.n, .int .u8 h'.mark, .string h'.want, .bool h'.kept] (hal _) (from_held _ w4.heap.size rfl _ _ _ _ _) (held_one _ _ _ _ _ _ _ _ rfl) (by unfold maxLen; omega) (by omega) (by simp; omega) ?_)
  intro lv' w5 hown hg hm5
  rw [← HCE.out] at hown
  have hbk5 := hbk.push hbk4 hrow hnew hok hhn2 hown hg
  have hc5 : Chg (fun k => Value.ownBlock (.slice la hs.length lc) = some k) w4 w5 := ((Chg.refl _ w4).alloc _).grown hg (fun k e => .inl e)
  have R5 := R4.keep hc5 (fun f => (hla _ f).1 rfl) (fun f => hgl f) (fun f => (hla _ f).2 rfl) (fun f => hrgl f)
  have C5 : Chg (fun k => k = a ∨ k = ra ∨ Value.ownBlock (.slice la hs.length lc) = some k) w w5 := (C4.mono (fun _ e => .inl (by rcases e with e | e; exact .inl e; exact .inr (.inl e)))).trans hc5 (fun _ e => .inl (.inr (.inr e)))
  have M5 : Moved w (.slice la hs.length lc) lv' := (Moved.refl w _).trans (Nat.le_trans C4.size (by simp)) hm5
  clear hal hown hg hm5 R4 C4 hrow hbk4 hc5
  go_wp2
  go_ret2
  exact ⟨_, h', rfl, ⟨_, R5⟩, hbk5, C5, M5⟩

set_option maxRecDepth 100000 in
set_option maxHeartbeats 2000000 in
theorem reads_take_big (B a g ra rg off : Nat) (xs : List Int) (two : Bool) (n v : Int) (ba : Option Addr) (bl bc : Nat) (lv : Value) (hs : List Hd) (w : World) (h : Two B w a g ra rg xs off) (hbk : Bk B w lv hs) (hB : B ≤ w.heap.size) (hlen : hs.length ≤ 16777216) (_hxs : xs.length ≤ 1099511627776) (hn : 0 ≤ n) (hb : (xs.length : Int) - off < n) :
    Calls Try.prog 30 #[.pointer (some ⟨a, 0, none⟩), .pointer (some ⟨ra, 0, none⟩), .agg #[.int .i64 6, .bool two, .int .i64 n, .int .u64 v, .slice ba bl bc], lv] w fun e w' => ∃ lv' h', e = .returned (.tuple #[lv', .bool true]) ∧ (∃ off', Two B w' a g ra rg xs off') ∧ Bk B w' lv' (hs ++ [h']) ∧ Chg (fun k => k = a ∨ k = ra ∨ lv.ownBlock = some k) w w' ∧ Moved w lv lv' := by
  obtain ⟨j0, hj, hj0, hj1, hj2⟩ := info_parts info81
  obtain ⟨n1, n2, n3, n4⟩ := h.ne
  have hlt := h.rd.lt.1
  have hglt := h.rd.lt.2
  obtain ⟨hralt, hrglt⟩ : ra < w.heap.size ∧ rg < w.heap.size := by obtain ⟨ad, c, hr⟩ := h.rr; exact hr.lt
  have hgl : lv.ownBlock ≠ some g := fun e => by
    obtain ⟨c1, h1⟩ := own_blk hbk.book e
    have h2 := h.rd.row
    rw [h1] at h2; simp at h2
  have hrgl : lv.ownBlock ≠ some rg := fun e => by
    obtain ⟨c1, h1⟩ := own_blk hbk.book e
    obtain ⟨ad, c, hr⟩ := h.rr
    obtain ⟨cur, h2, _⟩ := hr.row
    rw [h1] at h2; simp at h2
  have hla : ∀ b, lv.ownBlock = some b → b ≠ a ∧ b ≠ ra := fun b e => by
    obtain ⟨c1, h1⟩ := own_blk hbk.book e
    obtain ⟨ad, c, hr⟩ := h.rr
    have h2 := h.rd.blk
    have h3 := hr.blk
    refine ⟨fun f => ?_, fun f => ?_⟩
    · rw [f, h2] at h1; simp at h1
    · rw [f, h3] at h1; simp at h1
  have h5a : ∀ b cur, w.heap[b]? = some (.cells cur 5 (0, 0)) → b ≠ a ∧ b ≠ ra := fun b cur e => by
    obtain ⟨ad, c, hr⟩ := h.rr
    have h2 := h.rd.blk
    have h3 := hr.blk
    refine ⟨fun f => ?_, fun f => ?_⟩
    · rw [f, h2] at e; simp at e
    · rw [f, h3] at e; simp at e
  have hA := h.new (chg_one _ w (.cells #[.int .i64 6, .bool two, .int .i64 n, .int .u64 v, .slice ba bl bc] 47))
  obtain ⟨la, lc, hlv, _⟩ := book_form hbk.book
  subst hlv
  clear h
  go_enter Try.func30, Try.ntmps30
  go_wp2_with fail
  refine (take_big _ _ _ _ _ _ _ hA.rd hn hb).mono ?_
  rintro e w2 ⟨rfl, hd, hc1⟩
  have hk2 := op_cell hc1 hlt
  obtain ⟨ad, c, hr⟩ := hA.rr
  have hr2 := hr.keep hc1 (fun e => n1 e.symm) n3
  have hW2 : Chg (fun k => k = a) w w2 := (chg_one _ w _).trans hc1 (fun _ e => .inl e)
  have hown2 : w2.ownsRow B 5 1 (.slice none 0 0) 0 (cells8 []) := World.ownsRow_nil _ _ _ _
  have hvn : ∀ b, (Value.slice none 0 0).ownBlock = some b → ¬ b = ra := fun b e => by simp [Value.ownBlock] at e
  have hvw : ∀ b, (Value.slice none 0 0).ownBlock = some b → w.heap.size ≤ b := fun b e => by simp [Value.ownBlock] at e
  clear hA hr
  go_wp2_with fail
  refine (refTake_big _ _ _ _ _ _ _ _ _ hr2 hn hb).mono ?_
  rintro e w3 ⟨rfl, ⟨ad3, hr3⟩, hc3⟩
  have R := Two.both n1 n2 hd hc3 hr3
  have C : Chg (fun k => k = a ∨ k = ra) w w3 := (hW2.mono (fun _ e => .inl (.inl e))).trans hc3 (fun _ e => .inl (.inr e))
  have hv3 : w3.ownsRow B 5 1 (.slice none 0 0) 0 (cells8 []) := own_keep hown2 hc3 (fun b e f => hvn b e f)
  obtain ⟨xa, xc, hxe, hxr⟩ := own_row8 hv3
  have hcb := conv8_here hxr
  rw [← hxe] at hcb
  have hcc := conv8_here ((show Row8 w3 none 0 0 [] from ⟨rfl, .inl ⟨rfl, rfl, rfl⟩⟩))
  have hbk3 := hbk.keep C (fun b e f => by rcases f with f | f; exact (hla b e).1 f; exact (hla b e).2 f) (fun b cur e f => by rcases f with f | f; exact (h5a b cur e).1 f; exact (h5a b cur e).2 f)
  have hB3 : B ≤ w3.heap.size := Nat.le_trans hB C.size
  have hhold := hold_any B (.slice none 0 0) [] 0 hs.length _ (by omega) hv3 hB3 (by omega)
  have hnw : ∀ b, Value.ownBlock (.slice none 0 0) = some b → w.heap.size ≤ b := hvw
  clear hr2 hk2 hc1 hd hc3 hr3 hxr hxe hown2 hvn hvw hW2
  go_wp2_with fail
  refine hhold.mono ?_
  rintro e w4 ⟨h', va, vc, rfl, hva, hok, hhn, hrow, hc4, hm4⟩
  have hbk4 : Bk B w4 (.slice la hs.length lc) hs := ⟨own_keep hbk3.book hc4 (fun b e f => by
      obtain ⟨c1, h1⟩ := own_blk hbk3.book e
      obtain ⟨c2, h2⟩ := own_blk hv3 f
      rw [h1] at h2
      simp at h2), rows_keep hbk3.rows hc4 (fun i x e b hb f => by have := (hbk.rows i x e).lt hb; have := hnw b f; omega), hbk3.apart, hbk3.ok, hbk3.small⟩
  have R4 : Two B w4 a g ra rg xs _ := R.keep hc4 (fun f => by have := hnw _ f; omega) (fun f => by have := hnw _ f; have := hglt; omega) (fun f => by have := hnw _ f; have := hralt; omega) (fun f => by have := hnw _ f; have := hrglt; omega)
  have C4 : Chg (fun k => k = a ∨ k = ra) w w4 := C.trans hc4 (fun b e => .inr (hnw b e))
  have hnew : ∀ b, h'.v.ownBlock = some b → w.heap.size ≤ b := fun b e => by
    rcases hm4 b e with f | f
    · exact hnw b f
    · have := C.size; omega
  have hal := fun o => hbk4.book.alloc o
  have hB4 : B ≤ w4.heap.size := Nat.le_trans hB C4.size
  have HCE : Hid (h'.cells = [.slice va h'.ys.length vc, .int .i64 h'.n, .int .u8 h'.mark, .string h'.want, .bool h'.kept]) := by unfold Hid Hd.cells; rw [hva]
  have hhn2 : h'.n ≤ 1099511627776 := by rw [hhn]; exact (by omega)
  clear hhold hc4 hm4 R C hbk3 hcb hcc hv3 hva hhn
  go_wp2_with (at_builtin; refine wpList_append_moved rfl (.tmp 158) (.tmp 163) 45 rfl B 81 j0 (.agg #[.slice none 0 0, .int .i64 0, .int .u8 0, .string ⟨#[]⟩, .bool false]) 5 64 Try.underlying45 hj hj0 hj1 hj2 rfl (by decide) _ hs.length (hcells hs) rfl _ 1 1 rfl [.slice va h'.ys.length vc, .int .i64 h'.n, .int .u8 h'.mark, .string h'.want, .bool h'.kept] (hal _) (from_held _ w4.heap.size rfl _ _ _ _ _) (held_one _ _ _ _ _ _ _ _ rfl) (by unfold maxLen; omega) (by omega) (by simp; omega) ?_)
  intro lv' w5 hown hg hm5
  rw [← HCE.out] at hown
  have hbk5 := hbk.push hbk4 hrow hnew hok hhn2 hown hg
  have hc5 : Chg (fun k => Value.ownBlock (.slice la hs.length lc) = some k) w4 w5 := ((Chg.refl _ w4).alloc _).grown hg (fun k e => .inl e)
  have R5 := R4.keep hc5 (fun f => (hla _ f).1 rfl) (fun f => hgl f) (fun f => (hla _ f).2 rfl) (fun f => hrgl f)
  have C5 : Chg (fun k => k = a ∨ k = ra ∨ Value.ownBlock (.slice la hs.length lc) = some k) w w5 := (C4.mono (fun _ e => .inl (by rcases e with e | e; exact .inl e; exact .inr (.inl e)))).trans hc5 (fun _ e => .inl (.inr (.inr e)))
  have M5 : Moved w (.slice la hs.length lc) lv' := (Moved.refl w _).trans (Nat.le_trans C4.size (by simp)) hm5
  clear hal hown hg hm5 R4 C4 hrow hbk4 hc5
  go_wp2
  go_ret2
  exact ⟨_, h', rfl, ⟨_, R5⟩, hbk5, C5, M5⟩

set_option maxRecDepth 100000 in
set_option maxHeartbeats 2000000 in
theorem reads_take_ok (B a g ra rg off : Nat) (xs : List Int) (two : Bool) (n : Nat) (v : Int) (ba : Option Addr) (bl bc : Nat) (lv : Value) (hs : List Hd) (w : World) (h : Two B w a g ra rg xs off) (hbk : Bk B w lv hs) (hB : B ≤ w.heap.size) (hlen : hs.length ≤ 16777216) (hxs : xs.length ≤ 1099511627776) (hb : off + n ≤ xs.length) :
    Calls Try.prog 30 #[.pointer (some ⟨a, 0, none⟩), .pointer (some ⟨ra, 0, none⟩), .agg #[.int .i64 6, .bool two, .int .i64 n, .int .u64 v, .slice ba bl bc], lv] w fun e w' => ∃ lv' h', e = .returned (.tuple #[lv', .bool true]) ∧ (∃ off', Two B w' a g ra rg xs off') ∧ Bk B w' lv' (hs ++ [h']) ∧ Chg (fun k => k = a ∨ k = ra ∨ lv.ownBlock = some k) w w' ∧ Moved w lv lv' := by
  obtain ⟨j0, hj, hj0, hj1, hj2⟩ := info_parts info81
  obtain ⟨n1, n2, n3, n4⟩ := h.ne
  have hlt := h.rd.lt.1
  have hglt := h.rd.lt.2
  obtain ⟨hralt, hrglt⟩ : ra < w.heap.size ∧ rg < w.heap.size := by obtain ⟨ad, c, hr⟩ := h.rr; exact hr.lt
  have hgl : lv.ownBlock ≠ some g := fun e => by
    obtain ⟨c1, h1⟩ := own_blk hbk.book e
    have h2 := h.rd.row
    rw [h1] at h2; simp at h2
  have hrgl : lv.ownBlock ≠ some rg := fun e => by
    obtain ⟨c1, h1⟩ := own_blk hbk.book e
    obtain ⟨ad, c, hr⟩ := h.rr
    obtain ⟨cur, h2, _⟩ := hr.row
    rw [h1] at h2; simp at h2
  have hla : ∀ b, lv.ownBlock = some b → b ≠ a ∧ b ≠ ra := fun b e => by
    obtain ⟨c1, h1⟩ := own_blk hbk.book e
    obtain ⟨ad, c, hr⟩ := h.rr
    have h2 := h.rd.blk
    have h3 := hr.blk
    refine ⟨fun f => ?_, fun f => ?_⟩
    · rw [f, h2] at h1; simp at h1
    · rw [f, h3] at h1; simp at h1
  have h5a : ∀ b cur, w.heap[b]? = some (.cells cur 5 (0, 0)) → b ≠ a ∧ b ≠ ra := fun b cur e => by
    obtain ⟨ad, c, hr⟩ := h.rr
    have h2 := h.rd.blk
    have h3 := hr.blk
    refine ⟨fun f => ?_, fun f => ?_⟩
    · rw [f, h2] at e; simp at e
    · rw [f, h3] at e; simp at e
  have hA := h.new (chg_one _ w (.cells #[.int .i64 6, .bool two, .int .i64 n, .int .u64 v, .slice ba bl bc] 47))
  obtain ⟨la, lc, hlv, _⟩ := book_form hbk.book
  subst hlv
  clear h
  go_enter Try.func30, Try.ntmps30
  go_wp2_with fail
  refine (take_ok _ _ _ _ _ n _ hA.rd hb).mono ?_
  rintro e w2 ⟨q, rfl, hq1, hq2, hd, hc1⟩
  have hk2 := op_cell hc1 hlt
  obtain ⟨ad, c, hr⟩ := hA.rr
  have hr2 := hr.keep hc1 (fun e => n1 e.symm) n3
  have hW2 : Chg (fun k => k = a) w w2 := (chg_one _ w _).trans hc1 (fun _ e => .inl e)
  have hqw : w.heap.size ≤ q := by have : (w.alloc (.cells #[.int .i64 6, .bool two, .int .i64 n, .int .u64 v, .slice ba bl bc] 47)).heap.size ≤ q := hq1; simp at this; omega
  have hcut := hr2.cut n hb
  have hown2 : w2.ownsRow B 5 1 (.slice (some ⟨q, 0, none⟩) n n) n (cells8 ((xs.drop off).take n)) := own_of_blk hq2 (by omega) (by simp; omega) (by omega)
  have hvn : ∀ b, (Value.slice (some ⟨q, 0, none⟩) n n).ownBlock = some b → ¬ b = ra := fun b e => by simp [Value.ownBlock] at e; omega
  have hvw : ∀ b, (Value.slice (some ⟨q, 0, none⟩) n n).ownBlock = some b → w.heap.size ≤ b := fun b e => by simp [Value.ownBlock] at e; omega
  clear hq1 hq2
  clear hA hr
  go_wp2_with fail
  refine (refTake_ok _ _ _ _ _ _ _ n _ hr2 hb).mono ?_
  rintro e w3 ⟨rfl, ⟨ad3, hr3⟩, hc3⟩
  have R := Two.both n1 n2 hd hc3 hr3
  have C : Chg (fun k => k = a ∨ k = ra) w w3 := (hW2.mono (fun _ e => .inl (.inl e))).trans hc3 (fun _ e => .inl (.inr e))
  have hv3 : w3.ownsRow B 5 1 (.slice (some ⟨q, 0, none⟩) n n) n (cells8 ((xs.drop off).take n)) := own_keep hown2 hc3 (fun b e f => hvn b e f)
  obtain ⟨xa, xc, hxe, hxr⟩ := own_row8 hv3
  have hcb := conv8_here hxr
  rw [← hxe] at hcb
  have hcc := conv8_here (hcut w3 hr3.row)
  have hbk3 := hbk.keep C (fun b e f => by rcases f with f | f; exact (hla b e).1 f; exact (hla b e).2 f) (fun b cur e f => by rcases f with f | f; exact (h5a b cur e).1 f; exact (h5a b cur e).2 f)
  have hB3 : B ≤ w3.heap.size := Nat.le_trans hB C.size
  have hhold := hold_any B (.slice (some ⟨q, 0, none⟩) n n) ((xs.drop off).take n) n hs.length _ (by omega) hv3 hB3 (by omega)
  have hnw : ∀ b, Value.ownBlock (.slice (some ⟨q, 0, none⟩) n n) = some b → w.heap.size ≤ b := hvw
  clear hr2 hk2 hc1 hd hc3 hr3 hxr hxe hown2 hvn hvw hW2
  go_wp2_with fail
  refine hhold.mono ?_
  rintro e w4 ⟨h', va, vc, rfl, hva, hok, hhn, hrow, hc4, hm4⟩
  have hbk4 : Bk B w4 (.slice la hs.length lc) hs := ⟨own_keep hbk3.book hc4 (fun b e f => by
      obtain ⟨c1, h1⟩ := own_blk hbk3.book e
      obtain ⟨c2, h2⟩ := own_blk hv3 f
      rw [h1] at h2
      simp at h2), rows_keep hbk3.rows hc4 (fun i x e b hb f => by have := (hbk.rows i x e).lt hb; have := hnw b f; omega), hbk3.apart, hbk3.ok, hbk3.small⟩
  have R4 : Two B w4 a g ra rg xs _ := R.keep hc4 (fun f => by have := hnw _ f; omega) (fun f => by have := hnw _ f; have := hglt; omega) (fun f => by have := hnw _ f; have := hralt; omega) (fun f => by have := hnw _ f; have := hrglt; omega)
  have C4 : Chg (fun k => k = a ∨ k = ra) w w4 := C.trans hc4 (fun b e => .inr (hnw b e))
  have hnew : ∀ b, h'.v.ownBlock = some b → w.heap.size ≤ b := fun b e => by
    rcases hm4 b e with f | f
    · exact hnw b f
    · have := C.size; omega
  have hal := fun o => hbk4.book.alloc o
  have hB4 : B ≤ w4.heap.size := Nat.le_trans hB C4.size
  have HCE : Hid (h'.cells = [.slice va h'.ys.length vc, .int .i64 h'.n, .int .u8 h'.mark, .string h'.want, .bool h'.kept]) := by unfold Hid Hd.cells; rw [hva]
  have hhn2 : h'.n ≤ 1099511627776 := by rw [hhn]; exact (by omega)
  clear hhold hc4 hm4 R C hbk3 hcb hcc hv3 hva hhn
  go_wp2_with (at_builtin; refine wpList_append_moved rfl (.tmp 158) (.tmp 163) 45 rfl B 81 j0 (.agg #[.slice none 0 0, .int .i64 0, .int .u8 0, .string ⟨#[]⟩, .bool false]) 5 64 Try.underlying45 hj hj0 hj1 hj2 rfl (by decide) _ hs.length (hcells hs) rfl _ 1 1 rfl [.slice va h'.ys.length vc, .int .i64 h'.n, .int .u8 h'.mark, .string h'.want, .bool h'.kept] (hal _) (from_held _ w4.heap.size rfl _ _ _ _ _) (held_one _ _ _ _ _ _ _ _ rfl) (by unfold maxLen; omega) (by omega) (by simp; omega) ?_)
  intro lv' w5 hown hg hm5
  rw [← HCE.out] at hown
  have hbk5 := hbk.push hbk4 hrow hnew hok hhn2 hown hg
  have hc5 : Chg (fun k => Value.ownBlock (.slice la hs.length lc) = some k) w4 w5 := ((Chg.refl _ w4).alloc _).grown hg (fun k e => .inl e)
  have R5 := R4.keep hc5 (fun f => (hla _ f).1 rfl) (fun f => hgl f) (fun f => (hla _ f).2 rfl) (fun f => hrgl f)
  have C5 : Chg (fun k => k = a ∨ k = ra ∨ Value.ownBlock (.slice la hs.length lc) = some k) w w5 := (C4.mono (fun _ e => .inl (by rcases e with e | e; exact .inl e; exact .inr (.inl e)))).trans hc5 (fun _ e => .inl (.inr (.inr e)))
  have M5 : Moved w (.slice la hs.length lc) lv' := (Moved.refl w _).trans (Nat.le_trans C4.size (by simp)) hm5
  clear hal hown hg hm5 R4 C4 hrow hbk4 hc5
  go_wp2
  go_ret2
  exact ⟨_, h', rfl, ⟨_, R5⟩, hbk5, C5, M5⟩


end Go.Proofs.Ytgfibbabfpphpaa
