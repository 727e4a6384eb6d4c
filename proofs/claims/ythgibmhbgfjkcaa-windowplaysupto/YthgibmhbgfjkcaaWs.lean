/- The contracts of the document's window that turn memory (Put, Copy, Clear, Fork); of no statement by themselves. -/
import Derived.Test.YthgibmhbgfjkcaaWr
import Derived.Laws.CopyOwn
namespace Go.Proofs.Ythgibmhbgfjkcaa
open Go.RowKit
set_option linter.unusedVariables false

theorem one8 (xs : List Nat) : ∀ u ∈ (nums xs).map (Value.int .u8), u.oneCell' = true := fun u hu => by
  obtain ⟨x, _, rfl⟩ := List.mem_map.1 hu
  rfl
theorem own_app {w : World} {B : Nat} {v : Value} {n : Nat} {a b : List Nat} (h : w.ownsRow B 5 1 v n (ins .u8 (nums a) ++ (nums b).map (Value.int .u8))) : w.ownsRow B 5 1 v n (ins .u8 (nums (a ++ b))) := by
  rw [nums_append, ins_append, ins_map (nums b)]
  exact h
set_option maxHeartbeats 2000000 in
set_option maxRecDepth 100000 in
theorem rput_any (B r : Nat) (v : Value) (n : Nat) (bs : List Nat) (ad : Option Addr) (m c : Nat) (xs : List Nat) (w : World) (h : Rw w B r v n bs) (hB : B ≤ w.heap.size) (hs : Row8 w ad m c (nums xs)) (hl : bs.length + m ≤ 140737488355328) : Calls Try.prog 29 #[.pointer (some ⟨r, 0, none⟩), .slice ad m c] w fun e w' => e = .returned (.tuple #[]) ∧ ∃ v', Rw w' B r v' n (bs ++ xs) ∧ Chg (Foot r v) w w' ∧ Moved w v v' := by
  obtain ⟨iu, hiu, hu0, hu1, hu2⟩ := info_parts infoU8
  obtain ⟨ad0, c0, hv⟩ := form1 h.own
  have k1 := cell1 h.blk
  have HH : Hid (Rw w B r v n bs) := h
  have hown := h.own
  have hmx : xs.length = m := by have := hs.1; rw [nums_len] at this; exact this
  have hsrc := hs.src
  have hone := one8 xs
  have f1 := free1 h.blk
  rw [hv] at k1 hown
  generalize hLL : bs.length = L at *
  clear h
  go_enter Try.func29, Try.ntmps29
  go_wp2_with (at_builtin; refine wpList_append_moved rfl _ _ 22 rfl B 5 iu (.int .u8 0) 1 1 Try.underlying22 hiu hu0 hu1 hu2 rfl (by decide) _ L (ins .u8 (nums bs)) rfl ad m c rfl ((nums xs).map (Value.int .u8)) hown hsrc hone (by unfold maxLen; omega) (by omega) hB ?_)
  intro v9 w9 ho9 hg9 hm9
  obtain ⟨a9, d9, hv9⟩ := form1 ho9
  subst hv9
  rw [← hv] at hg9 hm9
  have hne : v.ownBlock ≠ some r := fun e => by
    obtain ⟨cur, hcur⟩ := owns_blk HH.out.own e
    exact ty_ne hcur HH.out.blk (by decide)
  have c9 : Chg (fun z => v.ownBlock = some z) w w9 := (Chg.refl _ w).grown hg9 (fun z e => .inl e)
  have b9 := blk_keep HH.out.blk c9 (fun f => hne f)
  have k9 := cell1 b9
  have f9 := free1 b9
  have HB9 : Hid ((w9.setCell ⟨r, 1, none⟩ (.slice a9 (L + m) d9)).heap[r]? = some (.cells #[.int .i64 (n : Int), .slice a9 (L + m) d9] 64 (0, 0))) := blk_set1 b9
  have cS : Chg (fun z => z = r) w9 (w9.setCell ⟨r, 1, none⟩ (.slice a9 (L + m) d9)) := Chg.setCell (S := fun z => z = r) (Chg.refl _ w9) (p := ⟨r, 1, none⟩) (.inl rfl) _
  have HO9 : Hid ((w9.setCell ⟨r, 1, none⟩ (.slice a9 (L + m) d9)).ownsRow B 5 1 (.slice a9 (L + m) d9) (bs ++ xs).length (ins .u8 (nums (bs ++ xs)))) := by
    have h9 := own_app ho9
    refine ownsRow_keep (by rw [List.length_append, hLL, hmx]; exact h9) cS (fun g e f => ?_)
    rw [f] at e
    obtain ⟨cur, hcur⟩ := owns_blk h9 e
    exact ty_ne hcur b9 (by decide)
  have HC9 : Hid (Chg (Foot r v) w (w9.setCell ⟨r, 1, none⟩ (.slice a9 (L + m) d9))) := (c9.mono (fun z f => .inl (.inr f))).trans cS (fun z f => .inl (.inl f))
  have HM9 : Hid (Moved w v (.slice a9 (L + m) d9)) := hm9
  clear ho9 hg9 hm9 c9 cS k1 hown hsrc hone b9
  go_wp2
  go_end0
  exact ⟨rfl, _, ⟨HH.out.hr, HB9.out, HO9.out⟩, HC9.out, HM9.out⟩
theorem rclear_any (B r : Nat) (v : Value) (n : Nat) (bs : List Nat) (w : World) (h : Rw w B r v n bs) : Calls Try.prog 34 #[.pointer (some ⟨r, 0, none⟩)] w fun e w' => e = .returned (.tuple #[]) ∧ Rw w' B r (.slice none 0 0) n [] ∧ Chg (Foot r v) w w' := by
  have k1 := cell1 h.blk
  have f1 := free1 h.blk
  have HB9 : Hid ((w.setCell ⟨r, 1, none⟩ (.slice none 0 0)).heap[r]? = some (.cells #[.int .i64 (n : Int), .slice none 0 0] 64 (0, 0))) := blk_set1 h.blk
  have HC9 : Hid (Chg (Foot r v) w (w.setCell ⟨r, 1, none⟩ (.slice none 0 0))) := (Chg.refl _ w).setCell (p := ⟨r, 1, none⟩) (.inl (.inl rfl)) _
  have HR : Hid (B ≤ r) := h.hr
  clear h
  go_enter Try.func34, Try.ntmps34
  go_wp2
  go_end0
  exact ⟨rfl, ⟨HR.out, HB9.out, World.ownsRow_nil _ _ _ _⟩, HC9.out⟩
set_option maxHeartbeats 2000000 in
set_option maxRecDepth 100000 in
theorem rfork_any (B r : Nat) (v : Value) (n : Nat) (bs : List Nat) (w : World) (h : Rw w B r v n bs) (hl : bs.length ≤ 140737488355328) : Calls Try.prog 19 #[.pointer (some ⟨r, 0, none⟩)] w fun e w' => ∃ r' v', e = .returned (.pointer (some ⟨r', 0, none⟩)) ∧ Rw w' w.heap.size r' v' n bs ∧ Chg (fun _ => False) w w' := by
  obtain ⟨iu, hiu, hu0, hu1, hu2⟩ := info_parts infoU8
  obtain ⟨ad0, c0, hv⟩ := form1 h.own
  subst hv
  have k0 := cell0 h.blk
  have k1 := cell1 h.blk
  have HH : Hid (Rw w B r (.slice ad0 bs.length c0) n bs) := h
  have hsrc := own_from h.own
  have hone := ins_one .u8 (nums bs)
  generalize hLL : bs.length = L at *
  clear h
  go_enter Try.func19, Try.ntmps19
  go_wp2_with (at_builtin; refine wpList_append_moved rfl _ _ 22 rfl w.heap.size 5 iu (.int .u8 0) 1 1 Try.underlying22 hiu hu0 hu1 hu2 rfl (by decide) _ 0 [] rfl ad0 L c0 rfl (ins .u8 (nums bs)) (World.ownsRow_nil _ _ _ _) hsrc hone (by unfold maxLen; omega) (by omega) (Nat.le_refl _) ?_)
  intro v9 w9 ho9 hg9 _
  have c9 : Chg (fun _ => False) w w9 := (Chg.refl _ w).grown hg9 (fun z e => by cases e)
  have q0 := cell_chg k0 c9
  have q1 := cell_chg k1 c9
  have HO9 : Hid (w9.ownsRow w.heap.size 5 1 v9 L (ins .u8 (nums bs))) := by simpa [Hid] using ho9
  have HC9 : Hid (Chg (fun _ => False) w w9) := c9
  obtain ⟨a9, d9, hv9⟩ := form1 HO9.out
  subst hv9
  clear ho9 hg9 c9 k0 k1 hsrc hone
  go_wp2
  go_ret
  exact ⟨_, _, rfl, ⟨HC9.out.size, heap_alloc_last _ _, ownsRow_keep (by rw [hLL]; exact HO9.out) (chg_one _ _) (fun _ _ f => f)⟩, chg_then HC9.out (chg_one _ _)⟩
end Go.Proofs.Ythgibmhbgfjkcaa
