/- What may follow what: mathematics, the document's Next; what is asked of the program's orders; of no statement by itself. -/
import Derived.Test.YtannepoclpmedaaDoorCs
namespace Go.Proofs.YtannepoclpmedaaDoor
open Go.RowKit
open St12
set_option linter.unusedVariables false
set_option linter.unusedSimpArgs false
namespace Ck17
/-- Begun, properties told. -/
def bt1 (s : Bool × Bool) (k : Int) : Bool × Bool := if k = 1 then (true, false) else if k = 5 ∨ k = 6 then (true, true) else s
def bt (l : List Int) : Bool × Bool := l.foldl bt1 (false, false)
theorem bt_snoc (l : List Int) (k : Int) : bt (l ++ [k]) = bt1 (bt l) k := by simp [bt]
def nextA (l : List Int) (k : Int) : Int :=
  if k < 0 ∨ 6 < k then 6
  else if (0 : Int) ∈ l then 2
  else if k = 0 ∨ k = 1 ∨ k = 6 then 0
  else if (bt l).1 = false ∨ (k = 3 ∨ k = 4) ∧ (bt l).2 = false then 2 else 0
def rowA (l : List Int) (k : Int) : List Int := if nextA l k = 0 then l ++ [k] else l
/-- A row that may have come: the end is its last. -/
def Came (l : List Int) : Prop := ∀ i, l[i]? = some 0 → i + 1 = l.length
theorem came_nil : Came [] := fun i h => by simp at h
theorem came_row {l : List Int} (h : Came l) (k : Int) : Came (rowA l k) := by
  unfold rowA
  split
  · next h0 =>
    have hz : (0 : Int) ∉ l := by
      intro hm
      unfold nextA at h0
      by_cases hk : k < 0 ∨ 6 < k
      · rw [if_pos hk] at h0; cases h0
      · rw [if_neg hk, if_pos hm] at h0; cases h0
    intro i hi
    rw [List.length_append, List.length_singleton]
    by_cases e : i < l.length
    · rw [List.getElem?_append_left e] at hi
      exact absurd (List.mem_of_getElem? hi) hz
    · have := (List.getElem?_eq_some_iff.1 hi).1
      simp at this
      omega
  · exact h
theorem came_last {l : List Int} (h : Came l) {x : Int} (hx : l[l.length - 1]? = some x) : ((0 : Int) ∈ l) ↔ x = 0 := by
  constructor
  · intro hm
    obtain ⟨i, hi, e⟩ := List.getElem_of_mem hm
    have h1 := h i (by rw [List.getElem?_eq_getElem hi, e])
    rw [show l.length - 1 = i by omega, List.getElem?_eq_getElem hi, e] at hx
    injection hx with hx
    exact hx.symm
  · intro e
    subst e
    exact List.mem_of_getElem? hx
end Ck17
/-- Whole numbers in memory, each by its number. -/
def IntC (w : World) (ad : Option Addr) (l : List Int) : Prop := ∀ (k : Nat) (x : Int), l[k]? = some x → ∃ b off, ad = some ⟨b, off, none⟩ ∧ w.cell? ⟨b, off + k, none⟩ = some (.int .i64 x)
theorem IntC.new {w w' : World} {a : Option Addr} {l : List Int} (h : IntC w a l) (hc : Chg (fun _ => False) w w') : IntC w' a l := fun k y hk => by
  obtain ⟨b, off, e, h0⟩ := h k y hk
  exact ⟨b, off, e, cell_chg h0 hc⟩
theorem intC_own {w : World} {B n c : Nat} {ad : Option Addr} {l : List Int} (h : w.ownsRow B 3 1 (.slice ad n c) n (ins .i64 l)) : IntC w ad l := fun k x hk => by
  have hlt := (List.getElem?_eq_some_iff.1 hk).1
  have hl := h.1
  rw [ins_len] at hl
  rcases h.2 with ⟨e0, e1⟩ | ⟨g, cap, cur, e0, _⟩
  · omega
  · simp only [Value.slice.injEq, true_and] at e0
    obtain ⟨rfl, rfl⟩ := e0
    have h9 := h.cells (g := g) rfl k (.int .i64 x) (by simp [ins, hk])
    rw [addk, Nat.zero_add] at h9
    exact ⟨g, 0, rfl, by rw [Nat.zero_add]; exact h9⟩
set_option maxHeartbeats 4000000 in
set_option maxRecDepth 100000 in
theorem rnext17_any (ad : Option Addr) (n c : Nat) (l : List Int) (k : Int) (hl : l.length = n) (hn : n ≤ 17592186044416) (w : World) (hr : IntC w ad l) : Calls Tryd.prog 17 #[.slice ad n c, .int .i64 k] w fun e w' => e = .returned (.int .i64 (Ck17.nextA l k)) ∧ w = w' := by
  by_cases h0 : k < 0
  · have d0 : decide (k < 0) = true := decide_eq_true h0
    have HA : Hid (Ck17.nextA l k = 6) := by show _ = _; unfold Ck17.nextA; rw [if_pos (by omega)]
    clear h0 hr
    go_enter Tryd.func17, Tryd.ntmps17
    go_wp2
    go_ret
    exact ⟨by rw [HA.out]; rfl, rfl⟩
  have d0 : decide (k < 0) = false := decide_eq_false h0
  by_cases h1 : 6 < k
  · have d1 : decide (6 < k) = true := decide_eq_true h1
    have HA : Hid (Ck17.nextA l k = 6) := by show _ = _; unfold Ck17.nextA; rw [if_pos (by omega)]
    clear h0 h1 hr
    go_enter Tryd.func17, Tryd.ntmps17
    go_wp2
    go_ret
    exact ⟨by rw [HA.out]; rfl, rfl⟩
  have d1 : decide (6 < k) = false := decide_eq_false h1
  have HK : Hid (¬ (k < 0 ∨ 6 < k)) := by show ¬ _; omega
  have HR : Hid (IntC w ad l) := hr
  have HL : Hid (l.length = n) := hl
  have hni : (n : Int) ≤ 17592186044416 := by omega
  have hk6 : k ≤ 6 := by omega
  have hk0 : 0 ≤ k := by omega
  clear hr h0 h1 hl
  go_enter Tryd.func17, Tryd.ntmps17
  go_wp2_with fail
  go_loopw [5, 6, 7] (fun v5 v6 v7 wr => ∃ (i : Nat) (b t : Bool), i ≤ n ∧ v5 = .bool b ∧ v6 = .bool t ∧ v7 = .int .i64 (i : Int) ∧ Hid (Ck17.bt (l.take i) = (b, t) ∧ (0 : Int) ∉ l.take i) ∧ w = wr) (fun _ _ v7 _ => n - (intOf v7).toNat)
  case atStart => exact ⟨0, false, false, by omega, rfl, rfl, rfl, ⟨rfl, by simp⟩, rfl⟩
  case round =>
    obtain ⟨i, b, t, hi, rfl, rfl, rfl, HI, rfl⟩ := hrel
    have hii : (i : Int) ≤ 17592186044416 := by omega
    by_cases hin : i < n
    · have d2 : decide (i < n) = true := decide_eq_true hin
      obtain ⟨x, hx⟩ : ∃ x, l[i]? = some x := ⟨_, List.getElem?_eq_getElem (by rw [HL.out]; exact hin)⟩
      obtain ⟨bb, off, rfl, hcell⟩ := HR.out i x hx
      have hlt := (List.getElem?_eq_some_iff.1 hx).1
      have e9 := (List.getElem?_eq_some_iff.1 hx).2
      have HX : Hid (l.take (i + 1) = l.take i ++ [x] ∧ x ∈ l) := ⟨by rw [← List.take_append_getElem hlt, e9], List.mem_of_getElem? hx⟩
      clear hx hlt e9
      by_cases x0 : x = 0
      · subst x0
        have HA : Hid (Ck17.nextA l k = 2) := by show _ = _; unfold Ck17.nextA; rw [if_neg HK.out, if_pos HX.out.2]
        clear HX HI
        go_wp2
        go_ret
        exact ⟨by rw [HA.out]; rfl, rfl⟩
      · have e0 : (x == 0) = false := by simp [x0]
        have HZ : Hid ((0 : Int) ∉ l.take (i + 1)) := by
          show ¬ _
          rw [HX.out.1]
          intro hm
          rcases List.mem_append.1 hm with h | h
          · exact HI.out.2 h
          · exact x0 (List.mem_singleton.1 h).symm
        have HBT : Hid (Ck17.bt (l.take (i + 1)) = Ck17.bt1 (b, t) x) := by show _ = _; rw [HX.out.1, Ck17.bt_snoc, HI.out.1]
        clear HX HI x0
        by_cases x1 : x = 1
        · subst x1
          have HB2 : Hid (Ck17.bt (l.take (i + 1)) = (true, false)) := HBT.out.trans (by simp [Ck17.bt1])
          go_wp2_with fail
          exact ⟨⟨i + 1, true, false, by omega, rfl, rfl, by go_num, ⟨HB2.out, HZ.out⟩, trivial⟩, by simp [intOf]; omega⟩
        · have e1 : (x == 1) = false := by simp [x1]
          by_cases x5 : x = 5
          · subst x5
            have HB2 : Hid (Ck17.bt (l.take (i + 1)) = (true, true)) := HBT.out.trans (by simp [Ck17.bt1])
            go_wp2_with fail
            exact ⟨⟨i + 1, true, true, by omega, rfl, rfl, by go_num, ⟨HB2.out, HZ.out⟩, trivial⟩, by simp [intOf]; omega⟩
          · have e5 : (x == 5) = false := by simp [x5]
            by_cases x6 : x = 6
            · subst x6
              have HB2 : Hid (Ck17.bt (l.take (i + 1)) = (true, true)) := HBT.out.trans (by simp [Ck17.bt1])
              go_wp2_with fail
              exact ⟨⟨i + 1, true, true, by omega, rfl, rfl, by go_num, ⟨HB2.out, HZ.out⟩, trivial⟩, by simp [intOf]; omega⟩
            · have e6 : (x == 6) = false := by simp [x6]
              have HB2 : Hid (Ck17.bt (l.take (i + 1)) = (b, t)) := HBT.out.trans (by simp [Ck17.bt1, x1, x5, x6])
              clear x1 x5 x6
              go_wp2_with fail
              exact ⟨⟨i + 1, b, t, by omega, rfl, rfl, by go_num, ⟨HB2.out, HZ.out⟩, trivial⟩, by simp [intOf]; omega⟩
    · have d2 : decide (i < n) = false := decide_eq_false hin
      have htk : l.take i = l := List.take_of_length_le (by rw [HL.out]; omega)
      have hbt := HI.out.1
      have hz := HI.out.2
      rw [htk] at hbt hz
      have HA : Hid (Ck17.nextA l k = if k = 0 ∨ k = 1 ∨ k = 6 then 0 else if b = false ∨ (k = 3 ∨ k = 4) ∧ t = false then 2 else 0) := by show _ = _; unfold Ck17.nextA; rw [if_neg HK.out, if_neg hz, hbt]
      clear HI htk hbt hz HK
      have hkk : k = 0 ∨ k = 1 ∨ k = 2 ∨ k = 3 ∨ k = 4 ∨ k = 5 ∨ k = 6 := by omega
      clear hk6 hk0 d0 d1
      rcases hkk with rfl | rfl | rfl | rfl | rfl | rfl | rfl <;> cases b <;> cases t <;>
        (go_wp2; go_ret; exact ⟨by rw [HA.out]; rfl, rfl⟩)
/-- Od w B a F l: an order at a, in the blocks F, all from B on; the row that came is l. -/
structure OrderSpec (Tab : World → Prop) (Od : World → Nat → Nat → (Nat → Prop) → List Int → Prop) : Prop where
  tab : ∀ {w0 w w' : World} {S : Nat → Prop}, Tab w0 → Tab w → Chg S w w' → (∀ z, S z → w0.heap.size ≤ z) → Tab w'
  keep : ∀ {w w' : World} {S F : Nat → Prop} {B a : Nat} {l : List Int}, Od w B a F l → Chg S w w' → (∀ z, F z → ¬ S z) → Od w' B a F l
  lt : ∀ {w : World} {F : Nat → Prop} {B a : Nat} {l : List Int}, Od w B a F l → ∀ z, F z → B ≤ z ∧ z < w.heap.size
  ty : ∀ {w : World} {F : Nat → Prop} {B a : Nat} {l : List Int}, Od w B a F l → ∀ z, F z → ∃ cs t, w.heap[z]? = some (.cells cs t (0, 0)) ∧ t ≠ 3 ∧ t ≠ 49 ∧ t ≠ 46
  new : ∀ (w : World), Tab w → Calls Tryd.prog 16 #[] w fun e w' => ∃ a F, e = .returned (.pointer (some ⟨a, 0, none⟩)) ∧ Od w' w.heap.size a F [] ∧ Chg (fun _ => False) w w'
  down : ∀ {w : World} {F : Nat → Prop} {B B' a : Nat} {l : List Int}, Od w B a F l → B' ≤ B → Od w B' a F l
  next : ∀ (B a : Nat) (F : Nat → Prop) (l : List Int) (k : Int) (w : World), Tab w → Od w B a F l → B ≤ w.heap.size → I64 k → Calls Tryd.prog 18 #[.pointer (some ⟨a, 0, none⟩), .int .i64 k] w fun e w' => e = .returned (.int .i64 (Ck17.nextA l k)) ∧ ∃ F', Od w' B a F' (Ck17.rowA l k) ∧ Chg F w w' ∧ ∀ z, F' z → F z ∨ w.heap.size ≤ z
  ended : ∀ (B a : Nat) (F : Nat → Prop) (l : List Int) (w : World), Tab w → Od w B a F l → Calls Tryd.prog 19 #[.pointer (some ⟨a, 0, none⟩)] w fun e w' => e = .returned (.bool (decide ((0 : Int) ∈ l))) ∧ Chg (fun _ => False) w w'
end Go.Proofs.YtannepoclpmedaaDoor
