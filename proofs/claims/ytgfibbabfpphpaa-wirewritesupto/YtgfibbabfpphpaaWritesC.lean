/- The contract of the statements' own function writes at Bytes, of no statement by itself; the book of what is held grows by two lists. -/
import Derived.Test.YtgfibbabfpphpaaWritesB
namespace Go.Proofs.Ytgfibbabfpphpaa
open Go.RowKit

theorem TW.keepS {B : Nat} {w w' : World} {S : Nat → Prop} {a ra : Nat} {v rv : Value} {bs : List Int} (h : TW B w a v ra rv bs) (hc : Chg S w w') (hS : ∀ k, Feet a v ra rv k → ¬ S k) : TW B w' a v ra rv bs :=
  ⟨h.wr.keep hc (hS a (.inl (.inl rfl))) (fun g e => hS g (.inl (.inr e))), h.rw.keep hc (hS ra (.inr (.inl rfl))) (fun g e => hS g (.inr (.inr e))), h.far⟩

/-- The book shares no block with a writer. -/
theorem TW.book {B : Nat} {w : World} {a ra : Nat} {v rv lv : Value} {bs : List Int} {n : Nat} {xs : List Value} (h : TW B w a v ra rv bs) (hl : w.ownsRow B 81 5 lv n xs) : ∀ k, Feet a v ra rv k → lv.ownBlock ≠ some k := by
  intro k hk e
  obtain ⟨c1, h1⟩ := own_blk hl e
  rcases hk with (f | f) | (f | f)
  · have h2 := h.wr.blk; rw [← f, h1] at h2; simp at h2
  · obtain ⟨c2, h2⟩ := own_blk h.wr.row f; rw [h1] at h2; simp at h2
  · have h2 := h.rw.blk; rw [← f, h1] at h2; simp at h2
  · obtain ⟨c2, h2⟩ := own_blk h.rw.row f; rw [h1] at h2; simp at h2

/-- The book with one list more, whose row is no row of the book. -/
theorem Bk.push' {B : Nat} {w2 w3 : World} {lv lv' : Value} {hs : List Hd} {h : Hd} {o : Obj} (hb : Bk B w2 lv hs) (hr : Row B w2 h) (hfar : ∀ (i : Nat) (a : Hd), hs[i]? = some a → ∀ g, a.v.ownBlock = some g → h.v.ownBlock ≠ some g) (hok : h.ok) (hn : h.n ≤ 1099511627776)
    (hown : w3.ownsRow B 81 5 lv' (hs.length + 1) (hcells hs ++ h.cells)) (hg : (w2.alloc o).grownBy w3 lv.ownBlock) : Bk B w3 lv' (hs ++ [h]) := by
  have hc : Chg (fun k => lv.ownBlock = some k) w2 w3 := ((Chg.refl _ w2).alloc o).grown hg (fun k e => .inl e)
  have hget : ∀ (i : Nat) (a : Hd), (hs ++ [h])[i]? = some a → i < hs.length ∧ hs[i]? = some a ∨ i = hs.length ∧ a = h := fun i a e => by
    by_cases hi : i < hs.length
    · rw [List.getElem?_append_left hi] at e; exact .inl ⟨hi, e⟩
    · rw [List.getElem?_append_right (by omega)] at e
      by_cases hi2 : i = hs.length
      · subst hi2; simp at e; exact .inr ⟨rfl, e.symm⟩
      · rw [List.getElem?_eq_none (by simp; omega)] at e; cases e
  refine ⟨?_, fun i a e => ?_, fun i j a b ei ej hij g hg1 hg2 => ?_, fun a ha => ?_, fun a ha => ?_⟩
  · rw [List.length_append, hcells_append]
    simpa [hcells] using hown
  · rcases hget i a e with ⟨_, e'⟩ | ⟨_, rfl⟩
    · exact ownsRow_keep (hb.rows i a e') hc (fun g hg f => book_ne hb.book (hb.rows i a e') f hg)
    · exact ownsRow_keep hr hc (fun g hg f => book_ne hb.book hr f hg)
  · rcases hget i a ei with ⟨_, ei'⟩ | ⟨hi, rfl⟩
    · rcases hget j b ej with ⟨_, ej'⟩ | ⟨hj, rfl⟩
      · exact hb.apart i j a b ei' ej' hij g hg1 hg2
      · exact hfar i a ei' g hg1 hg2
    · rcases hget j b ej with ⟨_, ej'⟩ | ⟨hj, rfl⟩
      · exact hfar j b ej' g hg2 hg1
      · omega
  · rcases List.mem_append.1 ha with e | e
    · exact hb.ok a e
    · simp at e; subst e; exact hok
  · rcases List.mem_append.1 ha with e | e
    · exact hb.small a e
    · simp at e; subst e; exact hn

/-- The book behind a call that changed one row of bytes which is none of its own. -/
theorem Bk.keepRow {B B2 : Nat} {w w' : World} {lv u : Value} {hs : List Hd} {n : Nat} {xs : List Value} (h : Bk B w lv hs) (hu : w.ownsRow B2 5 1 u n xs) (hc : Chg (fun b => u.ownBlock = some b) w w') (hfar : ∀ (i : Nat) (a : Hd), hs[i]? = some a → ∀ g, a.v.ownBlock = some g → u.ownBlock ≠ some g) : Bk B w' lv hs :=
  ⟨own_keep h.book hc (fun b e f => by
      obtain ⟨c1, h1⟩ := own_blk h.book e
      obtain ⟨c2, h2⟩ := own_blk hu f
      rw [h1] at h2
      simp at h2), rows_keep h.rows hc (fun i x e b hb f => hfar i x e b hb f), h.apart, h.ok, h.small⟩

set_option maxRecDepth 100000 in
set_option maxHeartbeats 4000000 in
theorem writes_bytes (B a : Nat) (v : Value) (ra : Nat) (rv : Value) (bs : List Int) (two : Bool) (n x : Int) (ba : Option Addr) (bl bc : Nat) (lv : Value) (hs : List Hd) (w : World) (h : TW B w a v ra rv bs) (hB : B ≤ w.heap.size) (hlen : bs.length ≤ 1099511627776) (hbk : Bk B w lv hs) (hhs : hs.length ≤ 16777216) :
    Calls Try.prog 23 #[.pointer (some ⟨a, 0, none⟩), .pointer (some ⟨ra, 0, none⟩), .agg #[.int .i64 6, .bool two, .int .i64 n, .int .u64 x, .slice ba bl bc], lv] w fun e w' => ∃ lv' h1 h2, e = .returned (.tuple #[lv', .bool true]) ∧ TW B w' a v ra rv bs ∧ Bk B w' lv' (hs ++ [h1] ++ [h2]) ∧ (∀ b, h1.v.ownBlock = some b → w.heap.size ≤ b) ∧ (∀ b, h2.v.ownBlock = some b → w.heap.size ≤ b) ∧ Chg (fun k => lv.ownBlock = some k) w w' ∧ Moved w lv lv' := by
  obtain ⟨j0, hj, hj0, hj1, hj2⟩ := info_parts info81
  have hA := h.new (chg_one _ w (.cells #[.int .i64 6, .bool two, .int .i64 n, .int .u64 x, .slice ba bl bc] 47))
  have hbA := hbk.new (chg_one _ w (.cells #[.int .i64 6, .bool two, .int .i64 n, .int .u64 x, .slice ba bl bc] 47))
  have hC : Chg (fun _ => False) w (w.alloc (.cells #[.int .i64 6, .bool two, .int .i64 n, .int .u64 x, .slice ba bl bc] 47)) := chg_one _ w _
  have hFt := h.lt
  have hRt : ∀ (i : Nat) (y : Hd), hs[i]? = some y → ∀ g, y.v.ownBlock = some g → g < w.heap.size := fun i y e g hg => ((hbk.rows i y e).lt hg).2
  have hLt : ∀ g, lv.ownBlock = some g → g < w.heap.size := fun g e => (hbk.book.lt g e).2
  obtain ⟨la, lc, rfl, _⟩ := book_form hbk.book
  clear h hbk
  go_enter Try.func23, Try.ntmps23
  go_wp2_with fail
  refine (bytes_any B a v bs _ hA.wr (by omega)).mono ?_
  rintro e w1 ⟨rfl, hq1, hc1⟩
  have hA1 := hA.new hc1
  have hb1 := hbA.new hc1
  have hC1 := chg_then hC hc1
  have hsz : (w.alloc (.cells #[.int .i64 6, .bool two, .int .i64 n, .int .u64 x, .slice ba bl bc] 47)).heap.size = w.heap.size + 1 := by simp
  rw [hsz] at hq1
  have hl1 := lt_of_blk hq1
  clear hA hbA hC hc1
  rw [hsz]
  go_wp2_with fail
  refine (bytes_any B a v bs _ hA1.wr (by omega)).mono ?_
  rintro e w2 ⟨rfl, hq2, hc2⟩
  have hA2 := hA1.new hc2
  have hb2 := hb1.new hc2
  have hC2 := chg_then hC1 hc2
  have hq12 := blk_keep hq1 hc2 (fun f => f)
  have hl2 := lt_of_blk hq2
  have hown1 : w2.ownsRow B 5 1 (.slice (some ⟨w.heap.size + 1, 0, none⟩) bs.length bs.length) bs.length (cells8 bs) := own_of_blk hq12 (by omega) rfl (by omega)
  have hown2 : w2.ownsRow B 5 1 (.slice (some ⟨w1.heap.size, 0, none⟩) bs.length bs.length) bs.length (cells8 bs) := own_of_blk hq2 (by omega) rfl (by omega)
  obtain ⟨xa, xc, hxe, hxr⟩ := own_row8 hA2.rw.row
  obtain ⟨xa1, xc1, hxe1, hxr1⟩ := own_row8 hown1
  obtain ⟨xa2, xc2, hxe2, hxr2⟩ := own_row8 hown2
  have hcr := conv8 hxr
  have hcb := conv8 hxr1
  have hcc := conv8 hxr2
  rw [← hxe] at hcr
  rw [← hxe1] at hcb
  rw [← hxe2] at hcc
  have hk0 := cell_of_one hA2.rw.blk
  clear hA1 hb1 hC1 hc2 hq1 hq12 hq2 hxe1 hxr1 hxe2 hxr2 hxr
  subst hxe
  have HO1 : Hid (w2.ownsRow B 5 1 (.slice (some ⟨w.heap.size + 1, 0, none⟩) bs.length bs.length) bs.length (cells8 bs)) := hown1
  have HO2 : Hid (w2.ownsRow B 5 1 (.slice (some ⟨w1.heap.size, 0, none⟩) bs.length bs.length) bs.length (cells8 bs)) := hown2
  clear hown1 hown2
  go_wp2_with fail
  go_quiet (fail)
  have hD : Chg (fun _ => False) w2 (w2.drewN nq) := chg_drewN w2 nq
  have hown1 := own_keep HO1.out hD (fun _ _ f => f)
  have hown2 := own_keep HO2.out hD (fun _ _ f => f)
  have hAQ := hA2.new hD
  have hbQ := hb2.new hD
  have hCQ := chg_then hC2 hD
  have hszQ : w2.heap.size ≤ (w2.drewN nq).heap.size := hD.size
  clear hA2 hb2 hC2 hcr hcb hcc hk0 HO1 HO2 hD
  generalize w2.drewN nq = wQ at *
  have hhold := hold_any B _ bs bs.length hs.length _ (by omega) hown1 (by omega) (by omega)
  go_wp2_with fail
  refine hhold.mono ?_
  rintro e w3 ⟨h1, va, vc, rfl, hva, hok, hhn, hrow, hc3, hm3⟩
  have hsQ3 : wQ.heap.size ≤ w3.heap.size := hc3.size
  have hown23 := own_keep hown2 hc3 (fun g e f => by simp [Value.ownBlock] at e f; omega)
  have hb3 := hbQ.keepRow hown1 hc3 (fun i y e g hg f => by have := hRt i y e g hg; simp [Value.ownBlock] at f; omega)
  have hA3 := hAQ.keepS hc3 (fun k f e => by have := (hFt k f).2; simp [Value.ownBlock] at e; omega)
  have hC3 : Chg (fun k => Value.ownBlock (.slice la hs.length lc) = some k) w w3 := (chg_none hCQ).trans hc3 (fun k e => .inr (by simp [Value.ownBlock] at e; omega))
  have hP1 : ∀ b, h1.v.ownBlock = some b → (b = w.heap.size + 1 ∨ wQ.heap.size ≤ b) ∧ b < w3.heap.size := fun b e => by
    refine ⟨?_, (hrow.lt e).2⟩
    rcases hm3 b e with f | f
    · left; simp [Value.ownBlock] at f; omega
    · exact .inr f
  have hal := fun o => hb3.book.alloc o
  have hB3 : B ≤ w3.heap.size := Nat.le_trans hB hC3.size
  have HCE : Hid (h1.cells = [.slice va h1.ys.length vc, .int .i64 h1.n, .int .u8 h1.mark, .string h1.want, .bool h1.kept]) := by unfold Hid Hd.cells; rw [hva]
  have hhn1 : h1.n ≤ 1099511627776 := by rw [hhn]; omega
  clear hhold hc3 hm3 hAQ hbQ hCQ hown1 hown2 hva hhn
  go_wp2_with (at_builtin; refine wpList_append_moved rfl (.tmp 133) (.tmp 138) 45 rfl B 81 j0 (.agg #[.slice none 0 0, .int .i64 0, .int .u8 0, .string ⟨#[]⟩, .bool false]) 5 64 Try.underlying45 hj hj0 hj1 hj2 rfl (by decide) _ hs.length (hcells hs) rfl _ 1 1 rfl [.slice va h1.ys.length vc, .int .i64 h1.n, .int .u8 h1.mark, .string h1.want, .bool h1.kept] (hal _) (from_held _ w3.heap.size rfl _ _ _ _ _) (held_one _ _ _ _ _ _ _ _ rfl) (by unfold maxLen; omega) (by omega) (by simp; omega) ?_)
  intro lv1 w4 hown4 hg4 hm4
  rw [← HCE.out] at hown4
  have hb4 := hb3.push' hrow (fun i y e g hg f => by have := hRt i y e g hg; have := (hP1 g f).1; omega) hok hhn1 hown4 hg4
  have hc4 : Chg (fun k => Value.ownBlock (.slice la hs.length lc) = some k) w3 w4 := ((Chg.refl _ w3).alloc _).grown hg4 (fun k e => .inl e)
  have hA4 := hA3.keepS hc4 (fun k f e => hA3.book hb3.book k f e)
  have hown24 := own_keep hown23 hc4 (fun g e f => by
      obtain ⟨c1, e1⟩ := own_blk hown23 e
      obtain ⟨c2, e2⟩ := own_blk hb3.book f
      rw [e1] at e2; simp at e2)
  have hC4 : Chg (fun k => Value.ownBlock (.slice la hs.length lc) = some k) w w4 := hC3.trans hc4 (fun _ e => .inl e)
  have hs34 : w3.heap.size ≤ w4.heap.size := hc4.size
  have hw4 : w.heap.size ≤ w4.heap.size := hC4.size
  have M1 : Moved w (.slice la hs.length lc) lv1 := (Moved.refl w _).trans (Nat.le_trans hC3.size (by simp)) hm4
  have hG : ∀ (i : Nat) (y : Hd), (hs ++ [h1])[i]? = some y → ∀ g, y.v.ownBlock = some g → g < w.heap.size ∨ g = w.heap.size + 1 ∨ (wQ.heap.size ≤ g ∧ g < w3.heap.size) := fun i y e g hg => by
    by_cases hi : i < hs.length
    · rw [List.getElem?_append_left hi] at e; exact .inl (hRt i y e g hg)
    · rw [List.getElem?_append_right (by omega)] at e
      by_cases hi2 : i = hs.length
      · subst hi2; simp at e; subst e
        obtain ⟨p1 | p1, p2⟩ := hP1 g hg
        · exact .inr (.inl p1)
        · exact .inr (.inr ⟨p1, p2⟩)
      · rw [List.getElem?_eq_none (by simp; omega)] at e; cases e
  obtain ⟨la1, lc1, hlv1⟩ : ∃ la1 lc1, lv1 = .slice la1 (hs.length + 1) lc1 := by
    obtain ⟨la1, lc1, e, _⟩ := book_form hb4.book
    exact ⟨la1, lc1, by simpa using e⟩
  subst hlv1
  have hhold := hold_any B _ bs bs.length (hs.length + 1) _ (by omega) hown24 (by omega) (by omega)
  clear hal hown4 hg4 hm4 hc4 hA3 hb3 hown23 HCE hrow
  go_wp2_with fail
  refine hhold.mono ?_
  rintro e w5 ⟨h2, vb, vd, rfl, hvb, hok2, hhn2, hrow2, hc5, hm5⟩
  have hb5 := hb4.keepRow hown24 hc5 (fun i y e g hg f => by have := hG i y e g hg; simp [Value.ownBlock] at f; omega)
  have hA5 := hA4.keepS hc5 (fun k f e => by have := (hFt k f).2; simp [Value.ownBlock] at e; omega)
  have hC5 : Chg (fun k => Value.ownBlock (.slice la hs.length lc) = some k) w w5 := hC4.trans hc5 (fun k e => .inr (by simp [Value.ownBlock] at e; omega))
  have hP2 : ∀ b, h2.v.ownBlock = some b → b = w1.heap.size ∨ w4.heap.size ≤ b := fun b e => by
    rcases hm5 b e with f | f
    · left; simp [Value.ownBlock] at f; omega
    · exact .inr f
  have hal : ∀ o, (w5.alloc o).ownsRow B 81 5 (.slice la1 (hs.length + 1) lc1) (hs.length + 1) (hcells (hs ++ [h1])) := fun o => by
    have := hb5.book.alloc o
    simpa using this
  have hB5 : B ≤ w5.heap.size := Nat.le_trans hB hC5.size
  have HCE : Hid (h2.cells = [.slice vb h2.ys.length vd, .int .i64 h2.n, .int .u8 h2.mark, .string h2.want, .bool h2.kept]) := by unfold Hid Hd.cells; rw [hvb]
  have hhn3 : h2.n ≤ 1099511627776 := by rw [hhn2]; omega
  clear hhold hc5 hm5 hA4 hb4 hown24 hvb hhn2
  go_wp2_with (at_builtin; refine wpList_append_moved rfl (.tmp 140) (.tmp 145) 45 rfl B 81 j0 (.agg #[.slice none 0 0, .int .i64 0, .int .u8 0, .string ⟨#[]⟩, .bool false]) 5 64 Try.underlying45 hj hj0 hj1 hj2 rfl (by decide) _ (hs.length + 1) (hcells (hs ++ [h1])) rfl _ 1 1 rfl [.slice vb h2.ys.length vd, .int .i64 h2.n, .int .u8 h2.mark, .string h2.want, .bool h2.kept] (hal _) (from_held _ w5.heap.size rfl _ _ _ _ _) (held_one _ _ _ _ _ _ _ _ rfl) (by unfold maxLen; omega) (by omega) (by simp; omega) ?_)
  intro lv2 w6 hown6 hg6 hm6
  rw [← HCE.out] at hown6
  have hb6 := hb5.push' hrow2 (fun i y e g hg f => by have := hG i y e g hg; have := hP2 g f; omega) hok2 hhn3 (by simpa using hown6) hg6
  have hc6 : Chg (fun k => Value.ownBlock (.slice la1 (hs.length + 1) lc1) = some k) w5 w6 := ((Chg.refl _ w5).alloc _).grown hg6 (fun k e => .inl e)
  have hA6 := hA5.keepS hc6 (fun k f e => hA5.book hb5.book k f e)
  have hC6 : Chg (fun k => Value.ownBlock (.slice la hs.length lc) = some k) w w6 := hC5.trans hc6 (fun k e => M1 k e)
  have M2 : Moved w (.slice la hs.length lc) lv2 := M1.trans (Nat.le_trans hC5.size (by simp)) hm6
  clear hal hown6 hg6 hm6 hc6 hA5 hb5 HCE hrow2 hC4 hC5 hC3
  go_wp2
  go_ret2
  exact ⟨_, h1, h2, rfl, hA6, hb6, fun b e => by have := (hP1 b e).1; omega, fun b e => by have := hP2 b e; omega, hC6, M2⟩

end Go.Proofs.Ytgfibbabfpphpaa
