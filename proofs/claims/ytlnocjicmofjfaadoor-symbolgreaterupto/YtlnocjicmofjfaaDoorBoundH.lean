/- Several texts in one, none of a statement by itself: Wring, Xm, Xa, Xb, Xc. -/
import Derived.Test.YtlnocjicmofjfaaDoorWm
import Derived.Test.YtlnocjicmofjfaaDoorBoundB
/- The mathematics of a ring in which a window's bytes lie; of no statement by itself. -/
namespace Go.Proofs.YtlnocjicmofjfaaDoor
set_option linter.unusedVariables false

theorem backB_in (bs xs : List Nat) (d : Nat) (h1 : 1 ≤ d) (h2 : d ≤ xs.length) : xs[xs.length - d]? = some (backB (bs ++ xs) d) := by
  rw [← backB_at h1 (by rw [List.length_append]; omega), List.length_append, List.getElem?_append_right (by omega)]
  congr 1
  omega
theorem backB_past (bs xs : List Nat) (d : Nat) (h1 : xs.length < d) (h2 : d ≤ bs.length + xs.length) : backB (bs ++ xs) d = backB bs (d - xs.length) := by
  have e1 := backB_at (bs := bs ++ xs) (d := d) (by omega) (by rw [List.length_append]; exact h2)
  have e2 := backB_at (bs := bs) (d := d - xs.length) (by omega) (by omega)
  rw [List.length_append, List.getElem?_append_left (by omega), show bs.length + xs.length - d = bs.length - (d - xs.length) by omega, e2] at e1
  exact (Option.some.inj e1).symm
/-- The last bytes of bs in a ring that grows up to n; the next byte goes to a. -/
structure RingOk (n : Nat) (bs ring : List Nat) (a : Nat) : Prop where
  len : ring.length = fullN n bs
  le : a ≤ ring.length
  grow : ring.length < n → a = ring.length
  back : ∀ d, 1 ≤ d → d ≤ ring.length → ring[if d ≤ a then a - d else a + ring.length - d]? = some (backB bs d)
theorem RingOk.nil (n : Nat) : RingOk n [] [] 0 := ⟨by simp [fullN], Nat.le_refl _, fun _ => rfl, fun d h1 h2 => by simp at h2; omega⟩
/-- Behind the ring's end its beginning follows. -/
theorem RingOk.turn {n : Nat} {bs ring : List Nat} (h : RingOk n bs ring n) : RingOk n bs ring 0 := by
  have h1 := h.le
  have h2 := h.len
  have h3 : ring.length = n := by unfold fullN at h2; omega
  refine ⟨h2, Nat.zero_le _, fun f => by omega, fun d d1 d2 => ?_⟩
  have := h.back d d1 d2
  rw [if_pos (by omega)] at this
  rw [if_neg (by omega), show 0 + ring.length - d = n - d by omega]
  exact this
/-- A piece is laid, within the size. -/
theorem RingOk.put {n : Nat} {bs ring : List Nat} {a : Nat} (h : RingOk n bs ring a) (xs : List Nat) (hk : a + xs.length ≤ n) : RingOk n (bs ++ xs) (ring.take a ++ xs ++ ring.drop (a + xs.length)) (a + xs.length) := by
  have hle := h.le
  have hln := h.len
  have hgr := h.grow
  unfold fullN at hln
  have hta : (ring.take a).length = a := by rw [List.length_take]; omega
  have hL : (ring.take a ++ xs ++ ring.drop (a + xs.length)).length = max ring.length (a + xs.length) := by simp only [List.length_append, List.length_drop, hta]; omega
  refine ⟨?_, by rw [hL]; omega, fun f => ?_, fun d d1 d2 => ?_⟩
  · rw [hL]
    unfold fullN
    rw [List.length_append]
    by_cases c : ring.length < n
    · have := hgr c; omega
    · omega
  · rw [hL] at f ⊢
    have := hgr (by omega)
    omega
  · rw [hL] at d2 ⊢
    by_cases c : d ≤ xs.length
    · rw [if_pos (by omega), List.getElem?_append_left (by rw [List.length_append, hta]; omega), List.getElem?_append_right (by omega), hta, show a + xs.length - d - a = xs.length - d by omega]
      exact backB_in bs xs d d1 c
    · have hdl : d ≤ bs.length + xs.length := by
        by_cases c2 : ring.length < n
        · have := hgr c2; omega
        · omega
      have hdm : d - xs.length ≤ ring.length := by
        by_cases c2 : ring.length < n
        · have := hgr c2; omega
        · omega
      rw [backB_past bs xs d (by omega) hdl]
      have hb := h.back (d - xs.length) (by omega) hdm
      by_cases c3 : d ≤ a + xs.length
      · rw [if_pos (by omega)] at hb
        rw [if_pos c3, List.getElem?_append_left (by rw [List.length_append, hta]; omega), List.getElem?_append_left (by omega), List.getElem?_take, if_pos (by omega), show a + xs.length - d = a - (d - xs.length) by omega]
        exact hb
      · rw [if_neg (by omega)] at hb
        have hm : max ring.length (a + xs.length) = ring.length := by omega
        rw [if_neg c3, hm, List.getElem?_append_right (by rw [List.length_append, hta]; omega), List.length_append, hta, List.getElem?_drop, show a + xs.length + (a + xs.length + ring.length - d - (a + xs.length)) = a + ring.length - (d - xs.length) by omega]
        exact hb
/-- A piece that fills the whole ring. -/
theorem RingOk.great (n : Nat) (bs xs : List Nat) (h : n ≤ xs.length) : RingOk n (bs ++ xs) (xs.drop (xs.length - n)) n := by
  have hl : (xs.drop (xs.length - n)).length = n := by rw [List.length_drop]; omega
  refine ⟨by rw [hl]; unfold fullN; rw [List.length_append]; omega, by omega, fun f => by omega, fun d d1 d2 => ?_⟩
  rw [hl] at d2 ⊢
  rw [if_pos d2, List.getElem?_drop, show xs.length - n + (n - d) = xs.length - d by omega]
  exact backB_in bs xs d d1 (by omega)
/-- What a ring gives at a distance. -/
theorem RingOk.at {n : Nat} {bs ring : List Nat} {a : Nat} (h : RingOk n bs ring a) (d : Nat) (h1 : 1 ≤ d) (h2 : d ≤ fullN n bs) : (d ≤ a → ring[a - d]? = some (backB bs d)) ∧ (a < d → ring[a + ring.length - d]? = some (backB bs d)) := by
  have hb := h.back d h1 (by rw [h.len]; exact h2)
  exact ⟨fun c => by rwa [if_pos c] at hb, fun c => by rwa [if_neg (by omega)] at hb⟩
/-- As many bytes as came, up to the size: the place is their number over the size. -/
theorem RingOk.len_full {n : Nat} {bs ring : List Nat} {a : Nat} (h : RingOk n bs ring a) (hn : n ≤ bs.length) : ring.length = n := by have := h.len; unfold fullN at this; omega
theorem RingOk.len_all {n : Nat} {bs ring : List Nat} {a : Nat} (h : RingOk n bs ring a) (hn : bs.length < n) : ring.length = bs.length ∧ a = bs.length := by
  have h1 := h.len
  have h2 := h.grow
  unfold fullN at h1
  omega
/-- Where the whole of it lies: first what lies from a on, then what lies ahead of it. -/
theorem RingOk.take {n : Nat} {bs ring : List Nat} {a : Nat} (h : RingOk n bs ring a) (k : Nat) (hk : k ≤ a) (i : Nat) (hi : i < k) : ring[a - k + i]? = some (backB bs (k - i)) := by
  have hb := h.back (k - i) (by omega) (by have := h.le; omega)
  rw [if_pos (by omega)] at hb
  rw [show a - k + i = a - (k - i) by omega]
  exact hb
end Go.Proofs.YtlnocjicmofjfaaDoor

/- The mathematics of the landed window: the ring by places modulo the size, pieces read out of it, repetitions; of no statement by itself. -/
namespace Go.Proofs.YtlnocjicmofjfaaDoor
set_option linter.unusedVariables false

/-- The byte that came as number k lies at k modulo n. -/
def RM (n : Nat) (bs ring : List Nat) : Prop := RingOk n bs ring (bs.length % n)
theorem RM.len {n : Nat} {bs ring : List Nat} (h : RM n bs ring) : ring.length = min bs.length n := RingOk.len h
theorem RM.nil (n : Nat) : RM n [] [] := by
  unfold RM
  rw [List.length_nil, Nat.zero_mod]
  exact RingOk.nil n
theorem RM.of {n a : Nat} {bs ring : List Nat} (hn : 1 ≤ n) (h : RingOk n bs ring a) (ha : a = bs.length % n ∨ (a = n ∧ bs.length % n = 0)) : RM n bs ring := by
  rcases ha with e | ⟨e, e0⟩
  · rw [e] at h; exact h
  · subst e
    unfold RM
    rw [e0]
    exact h.turn
theorem mod_step (n L c : Nat) (hn : 1 ≤ n) (h : L % n + c ≤ n) : L % n + c = (L + c) % n ∨ (L % n + c = n ∧ (L + c) % n = 0) := by
  by_cases e : L % n + c = n
  · refine .inr ⟨e, ?_⟩
    rw [Nat.add_mod]
    by_cases e1 : n = 1
    · subst e1; exact Nat.mod_one _
    · by_cases e2 : c = n
      · subst e2; rw [Nat.mod_self, Nat.add_zero, Nat.mod_mod]; omega
      · rw [Nat.mod_eq_of_lt (show c < n by omega), e, Nat.mod_self]
  · refine .inl ?_
    rw [Nat.add_mod, Nat.mod_eq_of_lt (show c < n by omega), Nat.mod_eq_of_lt (show L % n + c < n by omega)]
theorem RM.grow {n : Nat} {bs ring : List Nat} (hn : 1 ≤ n) (h : RM n bs ring) (xs : List Nat) (hx : xs.length ≤ n - ring.length) : RM n (bs ++ xs) (ring ++ xs) := by
  by_cases hz : xs.length = 0
  · obtain rfl := List.eq_nil_of_length_eq_zero hz
    rw [List.append_nil, List.append_nil]
    exact h
  · have hl := h.len
    have hg := RingOk.grow h (by omega)
    have hp := RingOk.put h xs (by omega)
    rw [hg, List.take_length, List.drop_eq_nil_of_le (by omega), List.append_nil] at hp
    refine RM.of hn hp ?_
    rw [← hg, List.length_append]
    exact mod_step n bs.length xs.length hn (by omega)
theorem RM.lay {n : Nat} {bs ring : List Nat} (hn : 1 ≤ n) (h : RM n bs ring) (hf : ring.length = n) (xs : List Nat) (hx : bs.length % n + xs.length ≤ n) : RM n (bs ++ xs) (ring.take (bs.length % n) ++ (xs ++ ring.drop (bs.length % n + xs.length))) := by
  have hp := RingOk.put h xs hx
  rw [List.append_assoc] at hp
  refine RM.of hn hp ?_
  rw [List.length_append]
  exact mod_step n bs.length xs.length hn hx
theorem RM.at {n : Nat} {bs ring : List Nat} (hn : 1 ≤ n) (h : RM n bs ring) (d : Nat) (h1 : 1 ≤ d) (h2 : d ≤ ring.length) : ring[(bs.length - d) % n]? = some (backB bs d) := by
  have hl := h.len
  obtain ⟨ha, hb⟩ := RingOk.at h d h1 (by unfold fullN; omega)
  have hm := Nat.div_add_mod bs.length n
  have hlt := Nat.mod_lt bs.length (show 0 < n by omega)
  have hg := RingOk.grow h
  generalize bs.length / n = q at *
  generalize bs.length % n = p at *
  by_cases c : d ≤ p
  · have e : (bs.length - d) % n = p - d := by
      rw [show bs.length - d = p - d + n * q by omega, Nat.add_mul_mod_self_left, Nat.mod_eq_of_lt (by omega)]
    rw [e]
    exact ha c
  · have hfull : ring.length = n := by
      by_cases f : ring.length < n
      · have := hg f; omega
      · omega
    obtain ⟨q', rfl⟩ : ∃ q', q = q' + 1 := by
      cases q with
      | zero => simp at hm; omega
      | succ q' => exact ⟨q', rfl⟩
    have e : (bs.length - d) % n = p + ring.length - d := by
      rw [Nat.mul_succ] at hm
      rw [hfull, show bs.length - d = p + n - d + n * q' by omega, Nat.add_mul_mod_self_left, Nat.mod_eq_of_lt (by omega)]
    rw [e]
    exact hb (by omega)
/-- The bytes from a distance on, as the ring has them: up to its end, and then from its beginning on. -/
theorem RM.read {n : Nat} {bs ring : List Nat} (hn : 1 ≤ n) (h : RM n bs ring) (d j : Nat) (h1 : 1 ≤ d) (h2 : d ≤ ring.length) (hj : j ≤ d) :
    (bs.drop (bs.length - d)).take j = (ring.drop ((bs.length - d) % n)).take j ++ ring.take (j - (ring.length - (bs.length - d) % n)) := by
  have hl := h.len
  have hsl := Nat.mod_lt (bs.length - d) (show 0 < n by omega)
  have hat := h.at hn
  have hsr : (bs.length - d) % n < ring.length := by
    have := hat d h1 h2
    exact (List.getElem?_eq_some_iff.1 this).1
  have hk : ∀ i, i < j → bs[bs.length - d + i]? = ring[(bs.length - d + i) % n]? := fun i hi => by
    have e1 := hat (d - i) (by omega) (by omega)
    have e2 := backB_at (bs := bs) (d := d - i) (by omega) (by omega)
    rw [show bs.length - (d - i) = bs.length - d + i by omega] at e1 e2
    rw [e1, e2]
  have hmall : ring.length < n → (bs.length - d) % n = bs.length - d := fun f => Nat.mod_eq_of_lt (by omega)
  obtain ⟨s, hs⟩ : ∃ s, (bs.length - d) % n = s := ⟨_, rfl⟩
  rw [hs] at hsl hsr hmall ⊢
  have hmod : ∀ i, i < j → (bs.length - d + i) % n = if s + i < ring.length then s + i else s + i - ring.length := fun i hi => by
    rw [Nat.add_mod, hs, Nat.mod_eq_of_lt (show i < n by omega)]
    by_cases c : s + i < ring.length
    · rw [if_pos c, Nat.mod_eq_of_lt (by omega)]
    · rw [if_neg c]
      have hfull : ring.length = n := by
        by_cases f : ring.length < n
        · have := hmall f; omega
        · omega
      rw [hfull, show s + i = s + i - n + n by omega, Nat.add_mod_right, Nat.mod_eq_of_lt (by omega)]
      omega
  apply List.ext_getElem?
  intro i
  by_cases hi : i < j
  · rw [List.getElem?_take, if_pos hi, List.getElem?_drop, hk i hi, hmod i hi]
    by_cases c : s + i < ring.length
    · rw [if_pos c, List.getElem?_append_left (by rw [List.length_take, List.length_drop]; omega), List.getElem?_take, if_pos hi, List.getElem?_drop]
    · rw [if_neg c, List.getElem?_append_right (by rw [List.length_take, List.length_drop]; omega), List.length_take, List.length_drop, List.getElem?_take, if_pos (by omega)]
      congr 1
      omega
  · rw [List.getElem?_eq_none (by rw [List.length_take]; omega), List.getElem?_eq_none]
    rw [List.length_append, List.length_take, List.length_drop, List.length_take]
    omega
/-- What is copied first is what lies there. -/
theorem copyL_front {d j : Nat} {bs : List Nat} (h1 : 1 ≤ d) (h2 : d ≤ bs.length) (hj : j ≤ d) : copyL d bs j = (bs.drop (bs.length - d)).take j := by
  apply List.ext_getElem?
  intro i
  by_cases hi : i < j
  · rw [copyL_first h1 h2 hi (by omega), List.getElem?_take, if_pos hi, List.getElem?_drop]
  · rw [List.getElem?_eq_none (by rw [copyL_len]; omega), List.getElem?_eq_none (by rw [List.length_take]; omega)]
theorem copyL_take {d : Nat} (bs : List Nat) (a b : Nat) (h : a ≤ b) : (copyL d bs b).take a = copyL d bs a := by
  rw [show b = a + (b - a) by omega, copyL_add]
  exact List.take_left' (copyL_len _ _ _)
theorem copyL_times {d n : Nat} {bs : List Nat} (h1 : 1 ≤ d) (h2 : d ≤ bs.length) : ∀ (q i : Nat), i + d * q < n → (copyL d bs n)[i + d * q]? = (copyL d bs n)[i]?
  | 0, i, _ => by simp
  | q + 1, i, hi => by
    rw [Nat.mul_succ] at hi ⊢
    rw [copyL_then h1 h2 hi (by omega), show i + (d * q + d) - d = i + d * q by omega]
    exact copyL_times h1 h2 q i (by omega)
/-- A whole number of repetitions is laid behind itself. -/
theorem copyL_double {d a b : Nat} {bs : List Nat} (h1 : 1 ≤ d) (h2 : d ≤ bs.length) (hd : d ∣ a) (hb : b ≤ a) : copyL d bs (a + b) = copyL d bs a ++ (copyL d bs a).take b := by
  apply List.ext_getElem?
  intro i
  have hl := copyL_len d a bs
  by_cases hi : i < a
  · rw [List.getElem?_append_left (by omega), ← copyL_take (d := d) bs a (a + b) (by omega), List.getElem?_take, if_pos hi]
  · rw [List.getElem?_append_right (by omega), hl, List.getElem?_take]
    by_cases c : i < a + b
    · rw [if_pos (by omega)]
      obtain ⟨q, rfl⟩ := hd
      rw [← copyL_take (d := d) bs (d * q) (d * q + b) (by omega), List.getElem?_take, if_pos (by omega)]
      have := copyL_times (n := d * q + b) h1 h2 q (i - d * q) (by omega)
      rw [show i - d * q + d * q = i by omega] at this
      exact this
    · rw [if_neg (by omega), List.getElem?_eq_none (by rw [copyL_len]; omega)]
end Go.Proofs.YtlnocjicmofjfaaDoor

/- The landed window in memory, and its calls that only look; of no statement by themselves. -/
namespace Go.Proofs.YtlnocjicmofjfaaDoor
open Go.RowKit
set_option linter.unusedVariables false

theorem cells3 {w : World} {a : Nat} {x y z : Value} {t : TypeId} (h : w.heap[a]? = some (.cells #[x, y, z] t (0, 0))) : w.cell? ⟨a, 0, none⟩ = some x ∧ w.cell? ⟨a, 1, none⟩ = some y ∧ w.cell? ⟨a, 2, none⟩ = some z ∧ ∀ j, w.frozen? ⟨a, j, none⟩ = false :=
  ⟨by simp [World.cell?, h], by simp [World.cell?, h], by simp [World.cell?, h], fun j => by simp [World.frozen?, h]⟩
theorem set3 {w : World} {a : Nat} {x y z : Value} {t : TypeId} (h : w.heap[a]? = some (.cells #[x, y, z] t (0, 0))) (j : Nat) (u : Value) : (w.setCell ⟨a, j, none⟩ u).heap[a]? = some (.cells (#[x, y, z].setIfInBounds j u) t (0, 0)) := by
  have hlt := lt_of_blk h
  have h' : w.heap[a] = .cells #[x, y, z] t (0, 0) := by simpa [Array.getElem?_eq_getElem hlt] using h
  show (w.heap.modify a _)[a]? = _
  rw [Array.getElem?_eq_getElem (by simpa using hlt), Array.getElem_modify_self, h']
  rfl
/-- The window at a; its ring's slice v, its size, all bytes that came. -/
structure WinR (w : World) (B a : Nat) (v : Value) (n : Nat) (bs ring : List Nat) : Prop where
  hr : B ≤ a
  blk : w.heap[a]? = some (.cells #[.int .i64 (n : Int), .int .i64 (bs.length : Int), v] 84 (0, 0))
  own : w.ownsRow B 5 1 v ring.length (ins .u8 (nums ring))
  ok : RM n bs ring
  n1 : 1 ≤ n
  n2 : n ≤ 4294967295
  dig : Rc.Dig bs
def Win (w : World) (B a : Nat) (v : Value) (n : Nat) (bs : List Nat) : Prop := ∃ ring, WinR w B a v n bs ring
theorem WinR.keep {w w' : World} {S : Nat → Prop} {B a : Nat} {v : Value} {n : Nat} {bs ring : List Nat} (h : WinR w B a v n bs ring) (hc : Chg S w w') (hS : ∀ z, Foot a v z → ¬ S z) : WinR w' B a v n bs ring := ⟨h.hr, blk_keep h.blk hc (hS a (.inl rfl)), ownsRow_keep h.own hc (fun g e => hS g (.inr e)), h.ok, h.n1, h.n2, h.dig⟩
theorem WinR.new {w w' : World} {B a : Nat} {v : Value} {n : Nat} {bs ring : List Nat} (h : WinR w B a v n bs ring) (hc : Chg (fun _ => False) w w') : WinR w' B a v n bs ring := h.keep hc (fun _ _ f => f)
theorem WinR.lt {w : World} {B a : Nat} {v : Value} {n : Nat} {bs ring : List Nat} (h : WinR w B a v n bs ring) {z : Nat} (f : Foot a v z) : B ≤ z ∧ z < w.heap.size := by
  rcases f with f | f
  · rw [f]; exact ⟨h.hr, lt_of_blk h.blk⟩
  · exact h.own.lt z f
theorem WinR.ne {w : World} {B a : Nat} {v : Value} {n : Nat} {bs ring : List Nat} (h : WinR w B a v n bs ring) : v.ownBlock ≠ some a := fun e => by
  obtain ⟨cur, hcur⟩ := owns_blk h.own e
  exact ty_ne hcur h.blk (by decide)
theorem WinR.small {w : World} {B a : Nat} {v : Value} {n : Nat} {bs ring : List Nat} (h : WinR w B a v n bs ring) : ring.length = fullN n bs ∧ ring.length ≤ 4294967295 ∧ ring.length ≤ n ∧ ring.length ≤ bs.length := by
  have := h.ok.len
  have := h.n2
  unfold fullN
  omega

theorem wnew_out (n : Int) (w : World) (h : n < 1 ∨ 4294967295 < n) : Calls Tryd.prog 16 #[.int .i64 n] w fun e w' => e = .returned (.tuple #[.pointer none, .int .i64 7]) ∧ Chg (fun _ => False) w w' := by
  by_cases h0 : n < 1
  · go_enter Tryd.func16, Tryd.ntmps16
    go_wp2
    go_ret2
    exact ⟨rfl, Chg.refl _ _⟩
  · have h1 : 4294967295 < n := by omega
    have hd : decide (n < 1) = false := by simp; omega
    have hd2 : decide (4294967295 < n) = true := by simp; omega
    go_enter Tryd.func16, Tryd.ntmps16
    go_wp2
    go_ret2
    exact ⟨rfl, Chg.refl _ _⟩
theorem wnew_in (n : Nat) (w : World) (h1 : 1 ≤ n) (h2 : n ≤ 4294967295) : Calls Tryd.prog 16 #[.int .i64 (n : Int)] w fun e w' => ∃ a v, e = .returned (.tuple #[.pointer (some ⟨a, 0, none⟩), .int .i64 0]) ∧ Win w' w.heap.size a v n [] ∧ Chg (fun _ => False) w w' := by
  have hd : decide ((n : Int) < 1) = false := by simp; omega
  have hd2 : decide (4294967295 < (n : Int)) = false := by simp; omega
  go_enter Tryd.func16, Tryd.ntmps16
  go_wp2
  go_ret2
  exact ⟨_, .slice none 0 0, rfl, ⟨[], Nat.le_refl _, heap_alloc_last _ _, World.ownsRow_nil _ _ _ _, RM.nil n, h1, h2, fun x hx => (List.not_mem_nil hx).elim⟩, chg_one _ _⟩
theorem wpos_q (B a : Nat) (v : Value) (n : Nat) (bs : List Nat) (w : World) (h : Win w B a v n bs) : Calls Tryd.prog 25 #[.pointer (some ⟨a, 0, none⟩)] w fun e w' => e = .returned (.int .i64 (bs.length : Int)) ∧ ∃ k, w' = w.drewN k := by
  obtain ⟨ring, h⟩ := h
  obtain ⟨k0, k1, k2, _⟩ := cells3 h.blk
  clear h
  go_enter Tryd.func25, Tryd.ntmps25
  go_wp2
  go_ret
  exact ⟨rfl, 0, rfl⟩
theorem wfull_q (B a : Nat) (v : Value) (n : Nat) (bs : List Nat) (w : World) (h : Win w B a v n bs) : Calls Tryd.prog 26 #[.pointer (some ⟨a, 0, none⟩)] w fun e w' => e = .returned (.int .i64 ((fullN n bs : Nat) : Int)) ∧ ∃ k, w' = w.drewN k := by
  obtain ⟨ring, h⟩ := h
  obtain ⟨ad, c, hv⟩ := form1 h.own
  subst hv
  obtain ⟨k0, k1, k2, _⟩ := cells3 h.blk
  rw [← h.small.1]
  clear h
  generalize ring.length = R at *
  go_enter Tryd.func26, Tryd.ntmps26
  go_wp2
  go_ret
  exact ⟨rfl, 0, rfl⟩
theorem wholds_any {B a : Nat} {v : Value} {n : Nat} {bs ring : List Nat} (d : Int) (w : World) (h : WinR w B a v n bs ring) : Calls Tryd.prog 50 #[.pointer (some ⟨a, 0, none⟩), .int .i64 d] w fun e w' => e = .returned (.bool (decide (Inw n bs d))) ∧ Chg (fun _ => False) w w' := by
  obtain ⟨ad, c, hv⟩ := form1 h.own
  subst hv
  obtain ⟨k0, k1, k2, _⟩ := cells3 h.blk
  have hin : Inw n bs d ↔ 0 < d ∧ d ≤ (ring.length : Int) := by unfold Inw; rw [h.small.1]
  clear h
  generalize ring.length = R at *
  by_cases h0 : 0 < d
  · have hd : decide (1 ≤ d) = true := by simp; omega
    obtain ⟨t, ht⟩ : ∃ t, decide (d ≤ (R : Int)) = t := ⟨_, rfl⟩
    have HR : Hid (decide (Inw n bs d) = t) := by show _ = _; rw [← ht]; exact decide_eq_decide.2 ⟨fun f => (hin.1 f).2, fun f => hin.2 ⟨h0, f⟩⟩
    clear hin
    go_enter Tryd.func50, Tryd.ntmps50
    go_wp2
    go_ret
    exact ⟨by rw [HR.out]; rfl, Chg.refl _ _⟩
  · have hd : decide (1 ≤ d) = false := by simp; omega
    have HR : Hid (decide (Inw n bs d) = false) := decide_eq_false (fun f => h0 (hin.1 f).1)
    clear hin
    go_enter Tryd.func50, Tryd.ntmps50
    go_wp2
    go_ret
    exact ⟨by rw [HR.out]; rfl, Chg.refl _ _⟩
theorem tmod_nat (x n : Nat) : ((x : Int)).tmod (n : Int) = ((x % n : Nat) : Int) := by
  rw [Int.tmod_eq_emod_of_nonneg (Int.natCast_nonneg _)]
  exact (Int.natCast_emod x n).symm
theorem wback_any {B a : Nat} {v : Value} {n : Nat} {bs ring : List Nat} (d : Nat) (w : World) (h : WinR w B a v n bs ring) (hl : bs.length ≤ 1152921504606846976) (hd : d ≤ ring.length) : Calls Tryd.prog 51 #[.pointer (some ⟨a, 0, none⟩), .int .i64 (d : Int)] w fun e w' => e = .returned (.int .i64 (((bs.length - d) % n : Nat) : Int)) ∧ ∃ k, w' = w.drewN k := by
  obtain ⟨k0, k1, k2, _⟩ := cells3 h.blk
  have hdl : d ≤ bs.length := by have := h.small; omega
  obtain ⟨L, hL⟩ : ∃ L, bs.length = L := ⟨_, rfl⟩
  rw [hL] at k1 hl hdl ⊢
  obtain ⟨K, hK⟩ : ∃ K, L - d = K := ⟨_, rfl⟩
  have hki : (L : Int) - (d : Int) = (K : Int) := by omega
  have hkb : (K : Int) ≤ 1152921504606846976 := by omega
  have htm := tmod_nat K n
  rw [hK]
  obtain ⟨M, hM⟩ : ∃ M, K % n = M := ⟨_, rfl⟩
  rw [hM] at htm ⊢
  have hMl : (M : Int) ≤ 4294967295 := by have := Nat.mod_lt K (show 0 < n from h.n1); have := h.n2; omega
  have hn0 : (n : Int) ≠ 0 := by have := h.n1; omega
  have hn1 : (1 : Int) ≤ (n : Int) := by have := h.n1; omega
  have hn2 : (n : Int) ≤ 4294967295 := by have := h.n2; omega
  clear h hK hM hd
  go_enter Tryd.func51, Tryd.ntmps51
  go_wp2_with fail
  go_quiet (fail)
  go_wp2
  go_ret
  exact ⟨rfl, nq, rfl⟩
end Go.Proofs.YtlnocjicmofjfaaDoor

/- The landed window's Last, Clear, Fork; of no statement by themselves. -/
namespace Go.Proofs.YtlnocjicmofjfaaDoor
open Go.RowKit
set_option linter.unusedVariables false

theorem eq_nil_some8 (x : Addr) (n c : Nat) (w : World) : (binOp .eql 24 (.slice (some x) n c) (.slice none 0 0)).run Tryd.prog w = .ok (.bool false) w := by kernel_rfl
theorem eq_nil_none8 (w : World) : (binOp .eql 24 (.slice none 0 0) (.slice none 0 0)).run Tryd.prog w = .ok (.bool true) w := by kernel_rfl
theorem wlast_any' (B a : Nat) (v : Value) (n : Nat) (bs : List Nat) (d : Int) (w : World) (h : Win w B a v n bs) (hl : bs.length ≤ 1152921504606846976) (hd : I64 d) : Calls Tryd.prog 28 #[.pointer (some ⟨a, 0, none⟩), .int .i64 d] w fun e w' => ((¬ Inw n bs d ∧ e = .returned (.tuple #[.int .u8 0, .int .i64 7])) ∨ (Inw n bs d ∧ e = .returned (.tuple #[.int .u8 ((backB bs d.toNat : Nat) : Int), .int .i64 0]))) ∧ Chg (fun _ => False) w w' := by
  obtain ⟨ring, h⟩ := h
  have HH : Hid _ := wholds_any d w h
  by_cases hi : Inw n bs d
  rotate_left
  · rw [decide_eq_false hi] at HH
    have HI : Hid (¬ Inw n bs d) := hi
    clear h hl hi
    go_enter Tryd.func28, Tryd.ntmps28
    go_wp2_with fail
    refine Calls.mono HH.out ?_
    rintro z w1 ⟨rfl, c1⟩
    have HC : Hid (Chg (fun _ => False) w w1) := c1
    clear c1 HH
    go_wp2
    go_ret2
    exact ⟨.inl ⟨HI.out, rfl⟩, HC.out⟩
  · rw [decide_eq_true hi] at HH
    have HI : Hid (Inw n bs d) := hi
    obtain ⟨i1, i2, i3, i4⟩ := hi.nat
    obtain ⟨D, hD⟩ : ∃ D, d.toNat = D := ⟨_, rfl⟩
    rw [hD] at i1 i2 i3 i4
    subst i4
    rw [show ((D : Int)).toNat = D from Int.toNat_natCast D]
    have hDr : D ≤ ring.length := by have := h.ok.len; omega
    have hat := h.ok.at h.n1 D i1 hDr
    have HB : Hid (∀ w1, Chg (fun _ => False) w w1 → Calls Tryd.prog 51 #[.pointer (some ⟨a, 0, none⟩), .int .i64 (D : Int)] w1 fun e w' => e = .returned (.int .i64 (((bs.length - D) % n : Nat) : Int)) ∧ ∃ k, w' = w1.drewN k) := fun w1 c1 => wback_any D w1 (h.new c1) hl hDr
    obtain ⟨b, hb⟩ : ∃ b, backB bs D = b := ⟨_, rfl⟩
    obtain ⟨K, hK⟩ : ∃ K, (bs.length - D) % n = K := ⟨_, rfl⟩
    rw [hb, hK] at hat
    rw [hK] at HB
    rw [hb]
    have HAT : Hid (ring[K]? = some b) := hat
    have hkl : K < ring.length := (List.getElem?_eq_some_iff.1 hat).1
    have HRW : Hid (WinR w B a v n bs ring) := h
    have hrl : ring.length ≤ 4294967295 := h.small.2.1
    clear h hat hb hK i1 i2 i3 hi hD hDr
    go_enter Tryd.func28, Tryd.ntmps28
    go_wp2_with fail
    refine Calls.mono HH.out ?_
    rintro z w1 ⟨rfl, c1⟩
    have hr1 := HRW.out.new c1
    obtain ⟨ad, c, hv⟩ := form1 hr1.own
    subst hv
    obtain ⟨_, _, k2, _⟩ := cells3 hr1.blk
    have hrow : Row8 w1 ad ring.length c (nums ring) := row8_own hr1.own
    obtain ⟨x, rfl, hcell⟩ := row8_cell hrow HAT.out
    have HC : Hid (Chg (fun _ => False) w w1) := c1
    have HQ : Hid (∀ q, Calls Tryd.prog 51 #[.pointer (some ⟨a, 0, none⟩), .int .i64 (D : Int)] (w1.drewN q) fun e w' => e = .returned (.int .i64 (K : Int)) ∧ ∃ m, w' = w1.drewN m) := fun q => Calls.quiet_of (HB.out _ (chg_then c1 (chg_drewN _ _)))
    clear c1 HH hr1 hrow HRW HB
    generalize ring.length = R at *
    go_wp2_with fail
    go_quiet (first | (go_at_call 51; exact HQ.out _))
    have HC2 : Hid (Chg (fun _ => False) w (w1.drewN nq)) := chg_then HC.out (chg_drewN _ _)
    go_wp2
    go_ret2
    exact ⟨.inr ⟨HI.out, rfl⟩, HC2.out⟩
end Go.Proofs.YtlnocjicmofjfaaDoor

/- Laws for one operation: a cut of a list of bytes, a copy into a list of one's own; of no statement by themselves. -/
namespace Go.Proofs.YtlnocjicmofjfaaDoor
open Go.RowKit
set_option linter.unusedVariables false

/-- Where a cut begins. -/
def cutA (ad : Option Addr) (c lo : Nat) : Option Addr := if c = lo then ad else ad.map (·.add lo)
theorem cutA_block {ad : Option Addr} {c lo : Nat} {x : Addr} (h : cutA ad c lo = some x) : ∃ y, ad = some y ∧ x.block = y.block := by
  unfold cutA at h
  cases ad with
  | none => split at h <;> cases h
  | some y =>
    refine ⟨y, rfl, ?_⟩
    split at h
    · cases h; rfl
    · simp only [Option.map_some, Option.some.injEq] at h
      subst h
      unfold Addr.add
      split <;> rfl
theorem addr_add0 (x : Addr) : x.add 0 = x := by unfold Addr.add; simp
theorem sizeU8 : (sizeOf 5).run Tryd.prog = fun w => .ok 1 w := by kernel_rfl
theorem elemU8 : Tryd.prog.elem 24 = 5 := by kernel_rfl
theorem undB : Tryd.prog.underlying 24 = some (.slice (Tryd.prog.elem 24)) := by kernel_rfl
theorem run_cut_lo (ad : Option Addr) (m c k : Nat) (w : World) (hk : k ≤ m) : (Instr.sliceAt 24 (.slice ad m c) (some (.int .i64 (k : Int))) none none).run Tryd.prog w = .ok (.slice (cutA ad c k) (m - k) (c - k)) w := by
  rw [run_sliceAt_slice w 24 _ _ _ _ undB, run_slice_l w 24 ad m c undB .i64 (k : Int) (by omega) (by omega), elemU8, sizeU8]
  unfold cutA sliced
  simp [Result.andThen]
theorem run_cut_hi (ad : Option Addr) (m c k : Nat) (w : World) (hk : k ≤ c) : (Instr.sliceAt 24 (.slice ad m c) none (some (.int .i64 (k : Int))) none).run Tryd.prog w = .ok (.slice ad k c) w := by
  rw [run_sliceAt_slice w 24 _ _ _ _ undB, run_slice_h w 24 ad m c undB .i64 (k : Int) (by omega) (by omega), elemU8, sizeU8]
  unfold sliced
  simp [Result.andThen]
  cases ad <;> simp [addr_add0]
theorem step_cut_lo {ops : Array Oper} {o : Oper} {a : Act} {w : World} {K : Act → World → Prop} {Q : Exit → Act → World → Prop} {E : Prop} (hgd : o.guard = none) (x l : Operand) (ho : o.op = .slice 24 x (some l) none none)
    (ad : Option Addr) (m c k : Nat) (hx : a.eval x = .slice ad m c) (hl : a.eval l = .int .i64 (k : Int)) (hk : k ≤ m) (h : K (a.put o.dst (.slice (cutA ad c k) (m - k) (c - k))) w) :
    if Region.wanted o (yielded ops a.tmps) = true then Oper.wp Tryd.prog o a w K Q else E := by
  have hw : Region.wanted o (yielded ops a.tmps) = true := by simp [Region.wanted, hgd]
  rw [if_pos hw]
  unfold Oper.wp
  simp [execOp, ho, hx, hl, run_cut_lo ad m c k w hk, Result.andThen]
  exact h
theorem step_cut_hi {ops : Array Oper} {o : Oper} {a : Act} {w : World} {K : Act → World → Prop} {Q : Exit → Act → World → Prop} {E : Prop} (hgd : o.guard = none) (x l : Operand) (ho : o.op = .slice 24 x none (some l) none)
    (ad : Option Addr) (m c k : Nat) (hx : a.eval x = .slice ad m c) (hl : a.eval l = .int .i64 (k : Int)) (hk : k ≤ c) (h : K (a.put o.dst (.slice ad k c)) w) :
    if Region.wanted o (yielded ops a.tmps) = true then Oper.wp Tryd.prog o a w K Q else E := by
  have hw : Region.wanted o (yielded ops a.tmps) = true := by simp [Region.wanted, hgd]
  rw [if_pos hw]
  unfold Oper.wp
  simp [execOp, ho, hx, hl, run_cut_hi ad m c k w hk, Result.andThen]
  exact h
theorem wpList_cut_lo {w : World} {ops : Array Oper} {rest : List Oper} {o : Oper} {a : Act} {Q : Exit → Act → World → Prop} (hgd : o.guard = none) (x l : Operand) (ho : o.op = .slice 24 x (some l) none none)
    (ad : Option Addr) (m c k : Nat) (hx : a.eval x = .slice ad m c) (hl : a.eval l = .int .i64 (k : Int)) (hk : k ≤ m) (h : wpList Tryd.prog ops Q rest (a.put o.dst (.slice (cutA ad c k) (m - k) (c - k))) w) : wpList Tryd.prog ops Q (o :: rest) a w := by
  refine wpList_plain hgd fun K hK => ?_
  unfold Oper.wp
  simp [execOp, ho, hx, hl, run_cut_lo ad m c k w hk, Result.andThen]
  exact hK _ _ h

theorem wpList_cut_hi {w : World} {ops : Array Oper} {rest : List Oper} {o : Oper} {a : Act} {Q : Exit → Act → World → Prop} (hgd : o.guard = none) (x l : Operand) (ho : o.op = .slice 24 x none (some l) none)
    (ad : Option Addr) (m c k : Nat) (hx : a.eval x = .slice ad m c) (hl : a.eval l = .int .i64 (k : Int)) (hk : k ≤ c) (h : wpList Tryd.prog ops Q rest (a.put o.dst (.slice ad k c)) w) : wpList Tryd.prog ops Q (o :: rest) a w := by
  refine wpList_plain hgd fun K hK => ?_
  unfold Oper.wp
  simp [execOp, ho, hx, hl, run_cut_hi ad m c k w hk, Result.andThen]
  exact hK _ _ h

/-- A copy into a list of one's own, from its place off on. -/
theorem run_copy_own {P : Program} (w : World) (B : Nat) (e dT sT ty : TypeId) (hu : P.underlying dT = some (.slice e)) (hsz : (P.info? e).map (·.size) = some 1) (v : Value) (n : Nat) (xs : List Value) (hown : w.ownsRow B e 1 v n xs)
    (off : Nat) (dp : Option Addr) (dLen dCap : Nat) (sp : Option Addr) (sLen sCap : Nat) (cs : List Value) (hn : cs.length = Nat.min sLen dLen) (hfit : off + cs.length ≤ n) (hdst : 0 < cs.length → ∀ g, v.ownBlock = some g → dp = some ⟨g, off, none⟩)
    (hsrc : 0 < cs.length → ∃ ad, sp = some ad ∧ ∀ j u, cs[j]? = some u → w.cell? (ad.add j) = some u) (h1 : ∀ u ∈ cs, u.oneCell' = true) :
    ∃ w', (Builtin.copy_ #[dT, sT] ty #[.slice dp dLen dCap, .slice sp sLen sCap]).run P w = .ok (goInt cs.length) w' ∧ w'.ownsRow B e 1 v n (splice xs off cs) ∧ Chg (fun z => v.ownBlock = some z) w w' := by
  by_cases h0 : cs.length = 0
  · obtain rfl := List.eq_nil_of_length_eq_zero h0
    exact ⟨w, run_copy_none w dT sT ty e dp sp dLen dCap sLen sCap hu hsz (by simpa using hn.symm), by simpa [splice] using hown, Chg.refl _ _⟩
  · rcases hown.2 with ⟨_, hn0⟩ | ⟨g, cap, cur, rfl, hB, hg, hcap, hmax, hcs, htk⟩
    · omega
    · obtain rfl := hdst (by omega) g rfl
      obtain ⟨ad, rfl, hs⟩ := hsrc (by omega)
      have hl := hown.1
      rw [Nat.mul_one] at hl hcs htk
      have hrun := run_copy_row (P := P) w dT sT ty e g off dLen dCap ad sLen sCap cur e cs hu hsz hg hn hs (by omega) h1
      refine ⟨_, hrun, ⟨?_, .inr ⟨g, cap, _, rfl, hB, setRow_heap _ _ _ _ _ _ hg, hcap, hmax, ?_, ?_⟩⟩, ⟨rfl, rfl, rfl, by simp [World.setRow], fun z _ hz => setRow_other _ _ _ _ (fun e => hz (by rw [e]; rfl))⟩⟩
      · rw [length_splice _ _ _ (by omega), hl, Nat.mul_one]
      · simp
        omega
      · rw [Nat.mul_one]
        have ht : cur.toList.take off = xs.take off := by rw [← htk, List.take_take, Nat.min_eq_left (by omega)]
        have hlen : (cur.toList.take off).length = off := by rw [List.length_take, Array.length_toList]; omega
        simp only [splice, List.append_assoc]
        rw [List.take_append, hlen, List.take_append, ← ht, List.take_of_length_le (by rw [hlen]; omega), List.take_of_length_le (show cs.length ≤ n - off by omega), List.take_drop, ← htk, List.drop_take]
        congr 2
        rw [List.drop_take]
        congr 1
        omega
theorem step_copy_own {P : Program} {ops : Array Oper} {o : Oper} {a : Act} {w : World} {K : Act → World → Prop} {Q : Exit → Act → World → Prop} {E : Prop} (hgd : o.guard = none) (d s : Operand) (dT sT : TypeId)
    (ho : o.op = .call { callee := .builtin .copy, args := #[d, s], argTypes := #[dT, sT] }) (B : Nat) (e : TypeId) (hu : P.underlying dT = some (.slice e)) (hsz : (P.info? e).map (·.size) = some 1) (v : Value) (n : Nat) (xs : List Value) (hown : w.ownsRow B e 1 v n xs)
    (off : Nat) (dp : Option Addr) (dLen dCap : Nat) (hd : a.eval d = .slice dp dLen dCap) (sp : Option Addr) (sLen sCap : Nat) (hs : a.eval s = .slice sp sLen sCap) (cs : List Value) (hn : cs.length = Nat.min sLen dLen) (hfit : off + cs.length ≤ n) (hdst : 0 < cs.length → ∀ g, v.ownBlock = some g → dp = some ⟨g, off, none⟩)
    (hsrc : 0 < cs.length → ∃ ad, sp = some ad ∧ ∀ j u, cs[j]? = some u → w.cell? (ad.add j) = some u) (h1 : ∀ u ∈ cs, u.oneCell' = true)
    (h : ∀ w', w'.ownsRow B e 1 v n (splice xs off cs) → Chg (fun z => v.ownBlock = some z) w w' → K (a.put o.dst (goInt cs.length)) w') :
    if Region.wanted o (yielded ops a.tmps) = true then Oper.wp P o a w K Q else E := by
  have hw : Region.wanted o (yielded ops a.tmps) = true := by simp [Region.wanted, hgd]
  rw [if_pos hw]
  obtain ⟨w', hrun, q1, q2⟩ := run_copy_own (P := P) w B e dT sT o.type hu hsz v n xs hown off dp dLen dCap sp sLen sCap cs hn hfit hdst hsrc h1
  unfold Oper.wp
  simp [execOp, ho, resolve, invoke, builtin, hd, hs, hrun, Result.andThen]
  exact h w' q1 q2
end Go.Proofs.YtlnocjicmofjfaaDoor
