/- A heap sorts: the walk of ParseSorts; of no statement by itself. -/
import Derived.Test.YtoeimahlielklaaHs
namespace Go.Proofs.Ytoeimahlielklaa
open Go.RowKit
open Hp16
set_option linter.unusedVariables false
set_option linter.unusedSimpArgs false
variable {Hp : World → Nat → Nat → (Nat → Prop) → List Pr → Prop}
/-- A list of whole numbers in memory. -/
def IntL (w : World) (ad : Option Addr) (l : List Int) : Prop := ∀ (k : Nat) (x : Int), l[k]? = some x → ∃ b off, ad = some ⟨b, off, none⟩ ∧ w.cell? ⟨b, off + k, none⟩ = some (.int .i64 x)
theorem IntL.new {w w' : World} {a : Option Addr} {l : List Int} (h : IntL w a l) (hc : Chg (fun _ => False) w w') : IntL w' a l := fun k y hk => by
  obtain ⟨b, off, e, h0⟩ := h k y hk
  exact ⟨b, off, e, cell_chg h0 hc⟩
/-- Prices with their places, 0 where there are none. -/
def zipP : List Int → List Int → List Pr
  | [], _ => []
  | p :: ps, qs => (p, qs.getD 0 0) :: zipP ps (qs.drop 1)
theorem zipP_len : ∀ (ps qs : List Int), (zipP ps qs).length = ps.length
  | [], _ => rfl
  | p :: ps, qs => by simp [zipP, zipP_len ps]
theorem zipP_at : ∀ (ps qs : List Int) (k : Nat) (p : Int), ps[k]? = some p → (zipP ps qs)[k]? = some (p, qs.getD k 0)
  | [], _, k, p, h => by simp at h
  | q :: ps, qs, 0, p, h => by
    simp at h
    subst h
    rfl
  | q :: ps, qs, k + 1, p, h => by
    have ih := zipP_at ps (qs.drop 1) k p (by simpa using h)
    show (zipP ps (qs.drop 1))[k]? = _
    rw [ih]
    congr 2
    rw [List.getD_eq_getElem?_getD, List.getD_eq_getElem?_getD, List.getElem?_drop, Nat.add_comm]
theorem infoBool : (Try.prog.info? 4).map (fun i => (i.zero, i.size, i.bytes)) = some (some (.bool false), 1, 1) := by kernel_rfl
theorem makeB (n : Nat) (hn : n ≤ 140737488355328) (w : World) : (Instr.makeSlice 30 (.int .i64 (n : Int)) (.int .i64 (n : Int))).run Try.prog w = .ok (.slice (some ⟨w.heap.size, 0, none⟩) n n) (w.alloc (.cells (Array.replicate n (Value.bool false)) 4)) := by
  obtain ⟨iy, hiy, hy0, hy1, hy2⟩ := info_parts infoBool
  have h := run_make (P := Try.prog) w 30 4 iy _ Try.underlying30 hiy hy0 .i64 .i64 n n (by omega) (Int.le_refl _) (by rw [hy2]; omega) (by omega)
  simp only [Int.toNat_natCast, hy1, Nat.mul_one] at h
  rw [h]
  have e : (madeCells (Value.bool false).cells n) = (Array.replicate n (Value.bool false)) := by
    apply Array.toList_inj.1
    rw [Array.toList_replicate]
    exact toList_madeCells_one _ n
  rw [e]
theorem ownB (n : Nat) (hn : n ≤ 140737488355328) (w : World) : (w.alloc (.cells (Array.replicate n (Value.bool false)) 4)).ownsRow w.heap.size 4 1 (.slice (some ⟨w.heap.size, 0, none⟩) n n) n ((List.replicate n false).map Value.bool) := by
  have h := World.ownsRow_lit (base := w.heap.size) (e := 4) (size := 1) w (Array.replicate n (Value.bool false)) n (Nat.le_refl _) (by unfold maxLen; omega) (by simp)
  rw [Array.toList_replicate] at h
  rw [List.map_replicate]
  exact h
/-- A heap a and the list of those that are used (in the block u), all made since w0. -/
structure Srts (Hp : World → Nat → Nat → (Nat → Prop) → List Pr → Prop) (w0 w : World) (a u n : Nat) (L : List Pr) (us : List Bool) : Prop where
  hp : ∃ F, Hp w w0.heap.size a F L
  own : w.ownsRow w0.heap.size 4 1 (.slice (some ⟨u, 0, none⟩) n n) n (us.map Value.bool)
  ch : Chg (fun _ => False) w0 w
theorem Srts.len {w0 w : World} {a u n : Nat} {L : List Pr} {us : List Bool} (h : Srts Hp w0 w a u n L us) : us.length = n := by have := h.own.1; simpa using this
theorem bool_ne (S : HeapSpec Hp) {w : World} {B a u n : Nat} {F : Nat → Prop} {L : List Pr} {xs : List Value} (h : Hp w B a F L) (ho : w.ownsRow B 4 1 (.slice (some ⟨u, 0, none⟩) n n) n xs) : ¬ F u := fun f => by
  obtain ⟨cs, t, hb, _, _, nb⟩ := S.ty h u f
  obtain ⟨cur, hc⟩ := owns_blk ho (g := u) rfl
  exact ty_ne hb hc nb
theorem Srts.new (S : HeapSpec Hp) {w0 w w' : World} {a u n : Nat} {L : List Pr} {us : List Bool} (h : Srts Hp w0 w a u n L us) (hc : Chg (fun _ => False) w w') : Srts Hp w0 w' a u n L us := by
  obtain ⟨F, hF⟩ := h.hp
  exact ⟨⟨F, S.new hF hc⟩, owns_keep h.own hc (fun _ _ f => f), chg_then h.ch hc⟩
theorem Srts.then (S : HeapSpec Hp) {w0 w w' : World} {a u n : Nat} {L L' : List Pr} {us : List Bool} {F F' : Nat → Prop} (h : Srts Hp w0 w a u n L us) (h1 : Hp w w0.heap.size a F L) (h2 : Hp w' w0.heap.size a F' L') (hc : Chg F w w') : Srts Hp w0 w' a u n L' us :=
  ⟨⟨F', h2⟩, owns_keep h.own hc (fun g e f => by
    simp only [Value.ownBlock, Option.some.injEq] at e
    subst e
    exact bool_ne S h1 h.own f), h.ch.trans hc (fun z f => .inr (S.lt h1 z f).1)⟩
theorem Srts.push (S : HeapSpec Hp) {w0 w : World} {a u n : Nat} {L : List Pr} {us : List Bool} (h : Srts Hp w0 w a u n L us) (x y : Int) (hL : L.length < 8796093022208) : Calls Try.prog 5 #[.pointer (some ⟨a, 0, none⟩), .int .i64 x, .int .i64 y] w fun e w' => e = .returned (.tuple #[]) ∧ Srts Hp w0 w' a u n (Hp16.ins (x, y) L) us := by
  obtain ⟨F, hF⟩ := h.hp
  exact (S.push _ a F L x y w hF h.ch.size hL).mono fun e w' ⟨he, F', h1, h2, _⟩ => ⟨he, h.then S hF h1 h2⟩
theorem Srts.pop (S : HeapSpec Hp) {w0 w : World} {a u n : Nat} {x : Pr} {t : List Pr} {us : List Bool} (h : Srts Hp w0 w a u n (x :: t) us) (hL : t.length < 8796093022208) : Calls Try.prog 7 #[.pointer (some ⟨a, 0, none⟩)] w fun e w' => e = .returned (.tuple #[.int .i64 x.1, .int .i64 x.2, .bool true]) ∧ Srts Hp w0 w' a u n t us := by
  obtain ⟨F, hF⟩ := h.hp
  exact (S.pop _ a F x t w hF h.ch.size hL).mono fun e w' ⟨he, F', h1, h2, _⟩ => ⟨he, h.then S hF h1 h2⟩
theorem Srts.popN (S : HeapSpec Hp) {w0 w : World} {a u n : Nat} {us : List Bool} (h : Srts Hp w0 w a u n [] us) : Calls Try.prog 7 #[.pointer (some ⟨a, 0, none⟩)] w fun e w' => e = .returned (.tuple #[.int .i64 0, .int .i64 0, .bool false]) ∧ Srts Hp w0 w' a u n [] us := by
  obtain ⟨F, hF⟩ := h.hp
  exact (S.popN _ a F w hF h.ch.size).mono fun e w' ⟨he, F', h1, h2, _⟩ => ⟨he, h.then S hF h1 h2⟩
theorem Srts.lenC (S : HeapSpec Hp) {w0 w : World} {a u n : Nat} {L : List Pr} {us : List Bool} (h : Srts Hp w0 w a u n L us) (hL : L.length ≤ 8796093022208) : Calls Try.prog 6 #[.pointer (some ⟨a, 0, none⟩)] w fun e w' => e = .returned (.int .i64 (L.length : Int)) ∧ Srts Hp w0 w' a u n L us := by
  obtain ⟨F, hF⟩ := h.hp
  exact (S.len _ a F L w hF hL).mono fun e w' ⟨he, h1⟩ => ⟨he, h.new S h1⟩
theorem Srts.use (S : HeapSpec Hp) {w0 w : World} {a u n : Nat} {L : List Pr} {us : List Bool} (h : Srts Hp w0 w a u n L us) (i : Nat) (hi : i < n) : Srts Hp w0 (w.setCell ⟨u, i, none⟩ (.bool true)) a u n L (us.set i true) := by
  obtain ⟨F, hF⟩ := h.hp
  have hc : Chg (fun z => z = u) w (w.setCell ⟨u, i, none⟩ (.bool true)) := Chg.setCell (S := fun z => z = u) (Chg.refl _ w) (p := ⟨u, i, none⟩) (.inl rfl) _
  refine ⟨⟨F, S.keep hF hc (fun z f e => by subst e; exact bool_ne S hF h.own f)⟩, ?_, h.ch.trans hc (fun z e => .inr (by subst e; exact (h.own.lt _ rfl).1))⟩
  have := own_set h.own i (.bool true) hi
  rw [List.map_set]
  exact this
theorem Srts.at {w0 w : World} {a u n : Nat} {L : List Pr} {us : List Bool} (h : Srts Hp w0 w a u n L us) (i : Nat) (b : Bool) (hb : us[i]? = some b) : w.cell? ⟨u, i, none⟩ = some (.bool b) ∧ w.frozen? ⟨u, i, none⟩ = false := by
  have hlt := (List.getElem?_eq_some_iff.1 hb).1
  obtain ⟨g, cap, e, _, _, _, _, hf, hc⟩ := own_some h.own (by rw [← h.len]; omega)
  simp only [Value.slice.injEq, Option.some.injEq, Addr.mk.injEq, and_true, true_and] at e
  obtain ⟨rfl, rfl⟩ := e
  exact ⟨hc i _ (by simp [hb]), hf i⟩
/-- Under way among the places: which one was found, if one was. -/
structure Fnd (us vs : List Bool) (ps : List Pr) (x : Pr) (i : Nat) (found : Bool) : Prop where
  yes : found = true → ∃ j, us[j]? = some false ∧ ps[j]? = some x ∧ vs = us.set j true
  no : found = false → vs = us ∧ ∀ j, j < i → us[j]? = some false → ps[j]? ≠ some x
theorem Fnd.sub {us vs : List Bool} {ps : List Pr} {x : Pr} {i : Nat} {found : Bool} (h : Fnd us vs ps x i found) (k : Nat) (hk : vs[k]? = some false) : us[k]? = some false := by
  cases found
  · rw [(h.no rfl).1] at hk; exact hk
  · obtain ⟨j, _, _, e⟩ := h.yes rfl
    rw [e, List.getElem?_set] at hk
    by_cases q : j = k
    · subst q
      simp at hk
    · rw [if_neg q] at hk
      exact hk
set_option maxHeartbeats 8000000 in
set_option maxRecDepth 100000 in
theorem sorts_any (S : HeapSpec Hp) (ad1 ad2 : Option Addr) (n c1 m c2 : Nat) (l1 l2 : List Int) (hl1 : l1.length = n) (hl2 : l2.length = m) (hn : n < 8796093022207) (hm : m < 35184372088832) (w0 : World) (hi1 : IntL w0 ad1 l1) (hi2 : IntL w0 ad2 l2) : Calls Try.prog 3 #[.slice ad1 n c1, .slice ad2 m c2] w0 fun e w' => e = .returned (.bool true) ∧ Chg (fun _ => False) w0 w' := by
  have HI1 : Hid (IntL w0 ad1 l1) := hi1
  have HI2 : Hid (IntL w0 ad2 l2) := hi2
  have HL1 : Hid (l1.length = n) := hl1
  have HL2 : Hid (l2.length = m) := hl2
  have hni : (n : Int) < 8796093022207 := by omega
  have hmi : (m : Int) < 35184372088832 := by omega
  have hmk := makeB n (by omega)
  have c1' := chg_one w0 (.cells #[.nilFunc, .slice none 0 0] 29)
  have z1 := S.zero w0
  have e1 : (w0.alloc (.cells #[.nilFunc, .slice none 0 0] 29)).heap.size = w0.heap.size + 1 := by simp
  generalize hW1 : w0.alloc (.cells #[.nilFunc, .slice none 0 0] 29) = W1 at *
  have c2' := chg_one W1 (.cells (Array.replicate n (Value.bool false)) 4)
  have o2 := ownB n (by omega) W1
  obtain ⟨ps, hps⟩ : ∃ ps, zipP l1 l2 = ps := ⟨_, rfl⟩
  have hpl : ps.length = n := by rw [← hps, zipP_len, hl1]
  have HPS : Hid (zipP l1 l2 = ps ∧ ps.length = n) := ⟨hps, hpl⟩
  have HS : Hid (Srts Hp w0 (W1.alloc (.cells (Array.replicate n (Value.bool false)) 4)) w0.heap.size W1.heap.size n [] (List.replicate n false)) := ⟨⟨_, S.new z1 c2'⟩, owns_base o2 (by omega), chg_then c1' c2'⟩
  rw [e1] at HS
  clear c1' z1 e1 c2' o2 hps hpl hl1 hl2 hi1 hi2
  subst hW1
  go_enter Try.func3, Try.ntmps3
  go_wp2_with fail
  generalize (w0.alloc (.cells #[.nilFunc, .slice none 0 0] 29)).alloc (.cells (Array.replicate n (Value.bool false)) 4) = W2 at *
  generalize w0.heap.size + 1 = u at *
  generalize w0.heap.size = a at *
  clear hmk
  go_loopw [28] (fun v wr => ∃ i : Nat, i ≤ n ∧ v = .int .i64 (i : Int) ∧ Hid (∃ L, Srts Hp w0 wr a u n L (List.replicate n false) ∧ L.Perm (ps.take i))) (fun v _ => n - (intOf v).toNat)
  case atStart => exact ⟨0, by omega, rfl, [], HS.out, by simp⟩
  case round =>
    obtain ⟨i, hi, rfl, HI⟩ := hrel
    have hii : (i : Int) < 8796093022208 := by omega
    obtain ⟨L, hSr, hPm⟩ := HI.out
    have hLl : L.length = i := by rw [hPm.length_eq, List.length_take, HPS.out.2]; omega
    by_cases hin : i < n
    · have hd1 : decide (i < n) = true := decide_eq_true hin
      obtain ⟨p, hp⟩ : ∃ p, l1[i]? = some p := ⟨_, List.getElem?_eq_getElem (by rw [HL1.out]; exact hin)⟩
      obtain ⟨b, off, rfl, x0⟩ := HI1.out.new hSr.ch i p hp
      have HZ : Hid (ps[i]? = some (p, l2.getD i 0)) := by show _ = _; rw [← HPS.out.1]; exact zipP_at l1 l2 i p hp
      have HPM : Hid (L.Perm (ps.take i)) := hPm
      have hnext : ∀ y, l2.getD i 0 = y → (Hp16.ins (p, y) L).Perm (ps.take (i + 1)) := fun y hy => by
        have hlt := (List.getElem?_eq_some_iff.1 HZ.out).1
        have e9 := (List.getElem?_eq_some_iff.1 HZ.out).2
        rw [← List.take_append_getElem hlt, e9, hy]
        exact ((ins_perm _ _).trans (hPm.cons _)).trans (List.perm_append_comm (l₁ := [_]))
      have HN : Hid (∀ y, l2.getD i 0 = y → (Hp16.ins (p, y) L).Perm (ps.take (i + 1))) := hnext
      have HSr : Hid (Srts Hp w0 wr a u n L (List.replicate n false)) := hSr
      have HLl : Hid (L.length = i) := hLl
      clear hp hPm hnext hSr hLl HI
      by_cases him : i < m
      · have hd2 : decide (i < m) = true := decide_eq_true him
        have hd2' : decide ((i : Int) < (m : Int)) = true := by simp; omega
        obtain ⟨q, hq⟩ : ∃ q, l2[i]? = some q := ⟨_, List.getElem?_eq_getElem (by rw [HL2.out]; exact him)⟩
        obtain ⟨b2, off2, rfl, x2⟩ := HI2.out.new HSr.out.ch i q hq
        have HQ : Hid (l2.getD i 0 = q) := by show _ = _; rw [List.getD_eq_getElem?_getD, hq]; rfl
        have HC : Hid _ := HSr.out.push S p q (by have := HLl.out; omega)
        clear hq
        go_wp2_with fail
        refine Calls.mono HC.out ?_
        rintro z w1 ⟨rfl, h1⟩
        have H1 : Hid (∃ L, Srts Hp w0 w1 a u n L (List.replicate n false) ∧ L.Perm (ps.take (i + 1))) := ⟨_, h1, HN.out _ HQ.out⟩
        clear h1 HC x0 x2
        go_wp2_with fail
        exact ⟨⟨i + 1, by omega, by go_num, H1.out⟩, by simp [intOf]; omega⟩
      · have hd2 : decide (i < m) = false := decide_eq_false him
        have hd2' : decide ((i : Int) < (m : Int)) = false := by simp; omega
        have HQ : Hid (l2.getD i 0 = 0) := by show _ = _; rw [List.getD_eq_getElem?_getD, List.getElem?_eq_none (by rw [HL2.out]; omega)]; rfl
        have HC : Hid _ := HSr.out.push S p 0 (by have := HLl.out; omega)
        go_wp2_with fail
        refine Calls.mono HC.out ?_
        rintro z w1 ⟨rfl, h1⟩
        have H1 : Hid (∃ L, Srts Hp w0 w1 a u n L (List.replicate n false) ∧ L.Perm (ps.take (i + 1))) := ⟨_, h1, HN.out _ HQ.out⟩
        clear h1 HC x0
        go_wp2_with fail
        exact ⟨⟨i + 1, by omega, by go_num, H1.out⟩, by simp [intOf]; omega⟩
    · have hd1 : decide (i < n) = false := decide_eq_false hin
      obtain rfl : n = i := by omega
      rw [List.take_of_length_le (by rw [HPS.out.2]; omega)] at hPm
      have HPM : Hid (L.Perm (un (List.replicate n false) ps)) := by show List.Perm _ _; have := un_all ps; rw [HPS.out.2] at this; rw [this]; exact hPm
      have HC : Hid _ := hSr.lenC S (by omega)
      rw [hLl] at HC
      have HLl : Hid (L.length = n) := hLl
      have hnn : ((n : Int) != (n : Int)) = false := by simp
      clear hd1 hin hii hi hPm hSr hLl HI
      go_wp2_with fail
      refine Calls.mono HC.out ?_
      rintro z w1 ⟨rfl, h1⟩
      have H0 : Hid (∃ L us, Srts Hp w0 w1 a u n L us ∧ L.Perm (un us ps) ∧ L.length = n - 0) := ⟨L, _, h1, HPM.out, HLl.out⟩
      clear h1 HC HPM HLl HS
      go_wp2_with fail
      go_loopw [53] (fun v wr => ∃ k : Nat, k ≤ n ∧ v = .int .i64 (k : Int) ∧ Hid (∃ L us, Srts Hp w0 wr a u n L us ∧ L.Perm (un us ps) ∧ L.length = n - k)) (fun v _ => n - (intOf v).toNat)
      case atStart => exact ⟨0, by omega, rfl, H0.out⟩
      case round =>
        obtain ⟨k, hk, rfl, HK⟩ := hrel
        have hki : (k : Int) < 8796093022208 := by omega
        obtain ⟨L2, us, hSr, hPm, hLl⟩ := HK.out
        by_cases hkn : k < n
        · have hd1 : decide (k < n) = true := decide_eq_true hkn
          obtain ⟨x, t, rfl⟩ : ∃ x t, L2 = x :: t := List.exists_cons_of_ne_nil (by intro e; subst e; simp at hLl; omega)
          have htl : t.length = n - 1 - k := by simp at hLl; omega
          have HLE : Hid (∀ j y, us[j]? = some false → ps[j]? = some y → le x y) := fun j y h1 h2 => by
            obtain ⟨F, hF⟩ := hSr.hp
            exact head_le (S.srt hF) hPm.symm y (un_mem us ps j y h1 h2)
          have HIN : Hid (∃ j : Nat, us[j]? = some false ∧ ps[j]? = some x) := un_find us ps x (hPm.mem_iff.1 List.mem_cons_self)
          have HPM : Hid ((x :: t).Perm (un us ps)) := hPm
          have HC : Hid _ := hSr.pop S (by omega)
          have HTL : Hid (t.length = n - 1 - k) := htl
          clear hSr hPm hLl htl HK
          obtain ⟨x1, x2⟩ := x
          simp only at HC
          go_upto_region 16 with fail
          go_wp2_with fail
          refine Calls.mono HC.out ?_
          rintro z w2 ⟨rfl, h2⟩
          have HD : Hid _ := h2.lenC S (by have := HTL.out; omega)
          rw [HTL.out] at HD
          have hsub : (((n - 1 - k : Nat) : Int) != (n : Int) - 1 - (k : Int)) = false := by simp; omega
          clear h2 HC
          go_wp2_with fail
          refine Calls.mono HD.out ?_
          rintro z w3 ⟨rfl, h3⟩
          have H3 : Hid (Srts Hp w0 w3 a u n t us) := h3
          clear h3 HD
          go_wp2_with fail
          go_loopw [14, 76] (fun v14 v76 wq => ∃ (i : Nat) (fd : Bool), i ≤ n ∧ v14 = .bool fd ∧ v76 = .int .i64 (i : Int) ∧ Hid (∃ vs, Srts Hp w0 wq a u n t vs ∧ Fnd us vs ps (x1, x2) i fd)) (fun _ v76 _ => n - (intOf v76).toNat)
          case atStart => exact ⟨0, false, by omega, rfl, rfl, us, H3.out, fun f => (nomatch f), fun _ => ⟨rfl, fun j hj => by omega⟩⟩
          case round =>
            obtain ⟨i, fd, hi, rfl, rfl, HV⟩ := hrel
            have hii : (i : Int) < 8796093022208 := by omega
            obtain ⟨vs, hSv, hFd⟩ := HV.out
            clear HV
            by_cases hin : i < n
            · have hd2 : decide (i < n) = true := decide_eq_true hin
              obtain ⟨p, hp⟩ : ∃ p, l1[i]? = some p := ⟨_, List.getElem?_eq_getElem (by rw [HL1.out]; exact hin)⟩
              obtain ⟨b, off, e0, y0⟩ := HI1.out.new hSv.ch i p hp
              have HZ : Hid (ps[i]? = some (p, l2.getD i 0)) := by show _ = _; rw [← HPS.out.1]; exact zipP_at l1 l2 i p hp
              subst e0
              clear hp
              obtain ⟨bu, hbu⟩ : ∃ b, vs[i]? = some b := ⟨_, List.getElem?_eq_getElem (by rw [hSv.len]; exact hin)⟩
              obtain ⟨cu, fu⟩ := hSv.at i bu hbu
              have HSv : Hid (Srts Hp w0 wr a u n t vs) := hSv
              have HFd : Hid (Fnd us vs ps (x1, x2) i fd) := hFd
              have HBu : Hid (vs[i]? = some bu) := hbu
              have HUse : Hid (Srts Hp w0 (wr.setCell ⟨u, i, none⟩ (.bool true)) a u n t (vs.set i true)) := hSv.use S i hin
              clear hSv hFd hbu
              have hpl : ∀ q, l2.getD i 0 = q → Hid (ps[i]? = some (p, q)) := fun q hq => hq ▸ HZ.out
              have HNO : Hid (∀ q, ps[i]? = some (p, q) → bu = false → le (x1, x2) (p, q)) := fun q h1 h2 => HLE.out i (p, q) (HFd.out.sub i (by rw [HBu.out, h2])) h1
              have HSKIP : Hid (∀ q, ps[i]? = some (p, q) → (bu = true ∨ fd = true ∨ (p, q) ≠ (x1, x2)) → Fnd us vs ps (x1, x2) (i + 1) fd) := fun q h1 h2 => ⟨HFd.out.yes, fun f => ⟨(HFd.out.no f).1, fun j hj h3 => by
                by_cases ej : j = i
                · subst ej
                  have h9 := HBu.out
                  rw [(HFd.out.no f).1, h3] at h9
                  rcases h2 with h2 | h2 | h2
                  · rw [h2] at h9; cases h9
                  · rw [f] at h2; cases h2
                  · rw [h1]; intro e; injection e with e; exact h2 e
                · exact (HFd.out.no f).2 j (by omega) h3⟩⟩
              have HTAKE : Hid (∀ q, ps[i]? = some (p, q) → bu = false → fd = false → (p, q) = (x1, x2) → Fnd us (vs.set i true) ps (x1, x2) (i + 1) true) := fun q h1 h2 h3 h4 => ⟨fun _ => ⟨i, HFd.out.sub i (by rw [HBu.out, h2]), by rw [h1, h4], by rw [(HFd.out.no h3).1]⟩, fun f => (nomatch f)⟩
              clear HZ HBu
              by_cases him : i < m
              · have hd3 : decide (i < m) = true := decide_eq_true him
                have hd3' : decide ((i : Int) < (m : Int)) = true := by simp; omega
                obtain ⟨q, hq⟩ : ∃ q, l2[i]? = some q := ⟨_, List.getElem?_eq_getElem (by rw [HL2.out]; exact him)⟩
                obtain ⟨b2, off2, e2, y2⟩ := HI2.out.new HSv.out.ch i q hq
                subst e2
                have HQ := hpl q (by rw [List.getD_eq_getElem?_getD, hq]; rfl)
                clear hq hpl
                cases bu
                · have HLQ : Hid (le (x1, x2) (p, q)) := HNO.out q HQ.out rfl
                  have h1 : decide (p < x1) = false := by have h9 := HLQ.out; unfold le at h9; simp at h9 ⊢; omega
                  by_cases hpe : p = x1
                  · have h2 : (p == x1) = true := by simp [hpe]
                    have h3 : decide (q < x2) = false := by have h9 := HLQ.out; unfold le at h9; simp at h9 ⊢; omega
                    cases fd
                    · by_cases hqe : q = x2
                      · have h4 : (q == x2) = true := by simp [hqe]
                        have HT : Hid (Fnd us (vs.set i true) ps (x1, x2) (i + 1) true) := HTAKE.out q HQ.out rfl rfl (by rw [hpe, hqe])
                        clear HLQ HNO HSKIP HTAKE HFd HQ hpe hqe HSv
                        go_wp2_with fail
                        exact ⟨⟨i + 1, true, by omega, rfl, by go_num, _, HUse.out, HT.out⟩, by simp [intOf]; omega⟩
                      · have h4 : (q == x2) = false := by simp [hqe]
                        have HT : Hid (Fnd us vs ps (x1, x2) (i + 1) false) := HSKIP.out q HQ.out (.inr (.inr (by intro e; injection e with _ e2; exact hqe e2)))
                        clear HLQ HNO HSKIP HTAKE HFd HQ hpe hqe HUse
                        go_wp2_with fail
                        exact ⟨⟨i + 1, false, by omega, rfl, by go_num, _, HSv.out, HT.out⟩, by simp [intOf]; omega⟩
                    · have HT : Hid (Fnd us vs ps (x1, x2) (i + 1) true) := HSKIP.out q HQ.out (.inr (.inl rfl))
                      clear HLQ HNO HSKIP HTAKE HFd HQ hpe HUse
                      go_wp2_with fail
                      exact ⟨⟨i + 1, true, by omega, rfl, by go_num, _, HSv.out, HT.out⟩, by simp [intOf]; omega⟩
                  · have h2 : (p == x1) = false := by simp [hpe]
                    have HT : Hid (Fnd us vs ps (x1, x2) (i + 1) fd) := HSKIP.out q HQ.out (.inr (.inr (by intro e; injection e with e1 _; exact hpe e1)))
                    clear HLQ HNO HSKIP HTAKE HFd HQ hpe HUse
                    cases fd
                    · go_wp2_with fail
                      exact ⟨⟨i + 1, false, by omega, rfl, by go_num, _, HSv.out, HT.out⟩, by simp [intOf]; omega⟩
                    · go_wp2_with fail
                      exact ⟨⟨i + 1, true, by omega, rfl, by go_num, _, HSv.out, HT.out⟩, by simp [intOf]; omega⟩
                · have HT : Hid (Fnd us vs ps (x1, x2) (i + 1) fd) := HSKIP.out q HQ.out (.inl rfl)
                  clear HNO HSKIP HTAKE HFd HQ HUse
                  go_wp2_with fail
                  exact ⟨⟨i + 1, fd, by omega, rfl, by go_num, _, HSv.out, HT.out⟩, by simp [intOf]; omega⟩
              · have hd3 : decide (i < m) = false := decide_eq_false him
                have hd3' : decide ((i : Int) < (m : Int)) = false := by simp; omega
                have HQ := hpl 0 (by rw [List.getD_eq_getElem?_getD, List.getElem?_eq_none (by rw [HL2.out]; omega)]; rfl)
                clear hpl
                cases bu
                · have HLQ : Hid (le (x1, x2) (p, 0)) := HNO.out 0 HQ.out rfl
                  have h1 : decide (p < x1) = false := by have h9 := HLQ.out; unfold le at h9; simp at h9 ⊢; omega
                  by_cases hpe : p = x1
                  · have h2 : (p == x1) = true := by simp [hpe]
                    have h3 : decide (0 < x2) = false := by have h9 := HLQ.out; unfold le at h9; simp at h9 ⊢; omega
                    cases fd
                    · by_cases hqe : 0 = x2
                      · have h4 : (0 == x2) = true := by simp [hqe]
                        have HT : Hid (Fnd us (vs.set i true) ps (x1, x2) (i + 1) true) := HTAKE.out 0 HQ.out rfl rfl (by rw [hpe, hqe])
                        clear HLQ HNO HSKIP HTAKE HFd HQ hpe hqe HSv
                        go_wp2_with fail
                        exact ⟨⟨i + 1, true, by omega, rfl, by go_num, _, HUse.out, HT.out⟩, by simp [intOf]; omega⟩
                      · have h4 : (0 == x2) = false := by simp [hqe]
                        have HT : Hid (Fnd us vs ps (x1, x2) (i + 1) false) := HSKIP.out 0 HQ.out (.inr (.inr (by intro e; injection e with _ e2; exact hqe e2)))
                        clear HLQ HNO HSKIP HTAKE HFd HQ hpe hqe HUse
                        go_wp2_with fail
                        exact ⟨⟨i + 1, false, by omega, rfl, by go_num, _, HSv.out, HT.out⟩, by simp [intOf]; omega⟩
                    · have HT : Hid (Fnd us vs ps (x1, x2) (i + 1) true) := HSKIP.out 0 HQ.out (.inr (.inl rfl))
                      clear HLQ HNO HSKIP HTAKE HFd HQ hpe HUse
                      go_wp2_with fail
                      exact ⟨⟨i + 1, true, by omega, rfl, by go_num, _, HSv.out, HT.out⟩, by simp [intOf]; omega⟩
                  · have h2 : (p == x1) = false := by simp [hpe]
                    have HT : Hid (Fnd us vs ps (x1, x2) (i + 1) fd) := HSKIP.out 0 HQ.out (.inr (.inr (by intro e; injection e with e1 _; exact hpe e1)))
                    clear HLQ HNO HSKIP HTAKE HFd HQ hpe HUse
                    cases fd
                    · go_wp2_with fail
                      exact ⟨⟨i + 1, false, by omega, rfl, by go_num, _, HSv.out, HT.out⟩, by simp [intOf]; omega⟩
                    · go_wp2_with fail
                      exact ⟨⟨i + 1, true, by omega, rfl, by go_num, _, HSv.out, HT.out⟩, by simp [intOf]; omega⟩
                · have HT : Hid (Fnd us vs ps (x1, x2) (i + 1) fd) := HSKIP.out 0 HQ.out (.inl rfl)
                  clear HNO HSKIP HTAKE HFd HQ HUse
                  go_wp2_with fail
                  exact ⟨⟨i + 1, fd, by omega, rfl, by go_num, _, HSv.out, HT.out⟩, by simp [intOf]; omega⟩
            · have hd2 : decide (i < n) = false := decide_eq_false hin
              have hfd : fd = true := by
                cases fd
                · obtain ⟨j, h1, h2⟩ := HIN.out
                  have hj : j < n := by rw [← HPS.out.2]; exact (List.getElem?_eq_some_iff.1 h2).1
                  exact absurd h2 ((hFd.no rfl).2 j (by omega) h1)
                · rfl
              subst hfd
              have HN : Hid (∃ L us, Srts Hp w0 wr a u n L us ∧ L.Perm (un us ps) ∧ L.length = n - (k + 1)) := by
                obtain ⟨j, h1, h2, h3⟩ := hFd.yes rfl
                refine ⟨t, vs, hSv, ?_, by have := HTL.out; omega⟩
                rw [h3]
                exact List.Perm.cons_inv (HPM.out.trans (un_set us ps j (x1, x2) h1 h2))
              clear hSv hFd HIN HLE HTL HPM H3
              go_wp2_with fail
              exact ⟨⟨k + 1, by omega, by go_num, HN.out⟩, by simp [intOf]; omega⟩
        · have hd1 : decide (k < n) = false := decide_eq_false hkn
          obtain rfl : L2 = [] := List.eq_nil_of_length_eq_zero (by omega)
          have HC : Hid _ := hSr.popN S
          clear hSr hPm hLl HK
          go_wp2_with fail
          refine Calls.mono HC.out ?_
          rintro z w2 ⟨rfl, h2⟩
          have HD : Hid _ := h2.lenC S (by simp)
          simp only [List.length_nil] at HD
          clear h2 HC
          go_wp2_with fail
          refine Calls.mono HD.out ?_
          rintro z w3 ⟨rfl, h3⟩
          have HE : Hid (Chg (fun _ => False) w0 w3) := h3.ch
          clear h3 HD
          go_wp2
          go_ret
          exact ⟨rfl, HE.out⟩
end Go.Proofs.Ytoeimahlielklaa
