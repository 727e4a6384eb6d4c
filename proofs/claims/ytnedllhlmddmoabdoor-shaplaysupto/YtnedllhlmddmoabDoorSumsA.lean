/- Texts that came in, their bytes lent one by one: what the statement's loops keep; of no statement by themselves. -/
import Derived.Test.YtnedllhlmddmoabDoorLent
import Derived.Test.YtnedllhlmddmoabDoorFacts
import Derived.Test.YtnedllhlmddmoabDoorLast
import Derived.Great.BuildSlice
namespace Go.Proofs.YtnedllhlmddmoabDoor
open Go.RowKit
set_option linter.unusedVariables false

/-- A block that begins with these bytes. -/
def Blk (w : World) (g : Nat) (xs : List Nat) : Prop := ∃ rest, w.heap[g]? = some (.cells (byts xs ++ rest).toArray 5 (0, 0))

theorem Blk.keep {w w' : World} {S : Nat → Prop} {g : Nat} {xs : List Nat} (h : Blk w g xs) (hc : Chg S w w') (hS : ¬ S g) : Blk w' g xs := by
  obtain ⟨r, h⟩ := h
  exact ⟨r, blk_keep h hc hS⟩

theorem Blk.row {w : World} {g : Nat} {xs : List Nat} (h : Blk w g xs) (n c : Nat) (hn : n ≤ xs.length) : Row8 w (some ⟨g, 0, none⟩) n c (up (xs.take n)) := by
  obtain ⟨r, h⟩ := h
  refine ⟨by rw [up_length, List.length_take]; omega, .inr ⟨_, rfl, fun j u hu => ?_⟩⟩
  rw [addk, Nat.zero_add, cell_of_row _ g j _ _ _ h]
  rw [up_byts] at hu
  have hj : j < n := by
    have := (List.getElem?_eq_some_iff.1 hu).1
    simp [byts] at this
    omega
  rw [List.getElem?_toArray, List.getElem?_append_left (by simp [byts]; omega)]
  simpa [byts, List.getElem?_take, hj] using hu

theorem Blk.lt {w : World} {g : Nat} {xs : List Nat} (h : Blk w g xs) : g < w.heap.size := by
  obtain ⟨r, h⟩ := h
  exact lt_of_blk h

theorem Blk.cell {w : World} {g : Nat} {xs : List Nat} (h : Blk w g xs) (q : Nat) (hq : q < xs.length) : w.cell? ⟨g, q, none⟩ = some (.int .u8 (xs.getD q 0 : Nat)) := by
  obtain ⟨r, h⟩ := h
  rw [cell_of_row _ g q _ _ _ h, List.getElem?_toArray, List.getElem?_append_left (by simp [byts]; omega)]
  exact byts_at xs q hq

theorem Blk.frozen {w : World} {g : Nat} {xs : List Nat} (h : Blk w g xs) (q : Nat) : w.frozen? ⟨g, q, none⟩ = false := by
  obtain ⟨r, h⟩ := h
  simp [World.frozen?, h]

theorem Blk.set {w : World} {g : Nat} {xs : List Nat} (h : Blk w g xs) (q x : Nat) (hq : q < xs.length) : Blk (w.setCell ⟨g, q, none⟩ (.int .u8 (x : Nat))) g (xs.set q x) := by
  obtain ⟨r, h⟩ := h
  refine ⟨r, ?_⟩
  rw [blk_setk h, List.set_append_left _ _ (by simp [byts]; omega), byts_set]

theorem blk_of_row {w : World} {g n cap : Nat} {xs : List Nat} {cur : Array Value} (h : Row8 w (some ⟨g, 0, none⟩) n cap (up xs)) (hb : w.heap[g]? = some (.cells cur 5 (0, 0))) : Blk w g xs := by
  have hl : xs.length = n := by rw [← up_length]; exact h.1
  refine ⟨cur.toList.drop n, ?_⟩
  rw [hb]
  have ht : cur.toList.take n = byts xs := by
    apply List.ext_getElem?
    intro j
    by_cases hj : j < n
    · rw [List.getElem?_take, if_pos hj]
      rcases h.2 with ⟨e, _⟩ | ⟨x, e, hx⟩
      · cases e
      · cases e
        have h1 := hx j (.int .u8 (xs.getD j 0 : Nat)) (by rw [up_byts]; exact byts_at xs j (by omega))
        rw [addk, Nat.zero_add, cell_of_row _ g j _ _ _ hb] at h1
        rw [byts_at xs j (by omega)]
        simpa using h1
    · rw [List.getElem?_eq_none (by simp; omega), List.getElem?_eq_none (by simp [byts]; omega)]
  rw [← ht, List.take_append_drop]

/-- A lent piece: its block, its capacity, its bytes. -/
structure Lt where
  g : Nat
  cap : Nat
  ns : List Nat
def Lt.pc (t : Lt) : Value := .slice (some ⟨t.g, 0, none⟩) t.ns.length t.cap
def Lt.fl (t : Lt) : Value := .slice (some ⟨t.g, 0, none⟩) (t.ns.length + 1) t.cap

/-- Lent pieces, each in a block of its own. -/
structure Lents (w : World) (B : Nat) (ts : List Lt) : Prop where
  each : ∀ t ∈ ts, Blk w t.g (t.ns ++ [165]) ∧ t.ns.length + 1 ≤ t.cap ∧ B ≤ t.g ∧ Byt t.ns
  ne : (ts.map Lt.g).Pairwise (· ≠ ·)

theorem Lents.nil (w : World) (B : Nat) : Lents w B [] := ⟨fun t h => (List.not_mem_nil h).elim, List.Pairwise.nil⟩
theorem Lents.keep {w w' : World} {B : Nat} {ts : List Lt} {S : Nat → Prop} (h : Lents w B ts) (hc : Chg S w w') (hS : ∀ t ∈ ts, ¬ S t.g) : Lents w' B ts :=
  ⟨fun t ht => ⟨(h.each t ht).1.keep hc (hS t ht), (h.each t ht).2⟩, h.ne⟩
theorem Lents.new {w w' : World} {B : Nat} {ts : List Lt} (h : Lents w B ts) (hc : Chg (fun _ => False) w w') : Lents w' B ts := h.keep hc (fun _ _ f => f)

theorem Lents.snoc {w : World} {B : Nat} {ts : List Lt} {t : Lt} (h : Lents w B ts) (ht : Blk w t.g (t.ns ++ [165]) ∧ t.ns.length + 1 ≤ t.cap ∧ B ≤ t.g ∧ Byt t.ns) (hn : ∀ s ∈ ts, s.g ≠ t.g) : Lents w B (ts ++ [t]) := by
  refine ⟨fun s hs => ?_, ?_⟩
  · rcases List.mem_append.1 hs with h1 | h1
    · exact h.each s h1
    · simp at h1
      subst h1
      exact ht
  · rw [List.map_append, List.pairwise_append]
    refine ⟨h.ne, by simp, fun x hx y hy => ?_⟩
    obtain ⟨s, hs, rfl⟩ := List.mem_map.1 hx
    simp at hy
    subst hy
    exact hn s hs

theorem Lents.roomy {w : World} {B : Nat} {ts : List Lt} (h : Lents w B ts) {t : Lt} (ht : t ∈ ts) : Roomy w t.g t.ns.length t.cap t.ns := by
  obtain ⟨h1, h2, _⟩ := h.each t ht
  refine ⟨?_, h2⟩
  have := h1.row (t.ns.length + 1) t.cap (by simp)
  rwa [List.take_of_length_le (by simp)] at this

theorem Lents.row {w : World} {B : Nat} {ts : List Lt} (h : Lents w B ts) {t : Lt} (ht : t ∈ ts) : Row8 w (some ⟨t.g, 0, none⟩) t.ns.length t.cap (up t.ns) := (h.roomy ht).bytes rfl

theorem Lents.pieces {w : World} {B : Nat} {ts : List Lt} (h : Lents w B ts) (x : Addr) (hc : ∀ k (hk : k < ts.length), w.cell? (x.add k) = some ts[k].pc) : Pieces w x (ts.map Lt.ns) := by
  intro k hk
  have hk2 : k < ts.length := by simpa using hk
  have hm : ts[k] ∈ ts := List.getElem_mem _
  refine ⟨_, hc k hk2, _, _, _, rfl, ?_, ?_, ?_⟩
  · rw [List.getElem_map]; exact h.row hm
  · rw [List.getElem_map]; exact (h.each _ hm).2.2.2
  · have := (h.each _ hm).2.1; omega

/-- Texts that came in. -/
structure ArgS (w : World) (a : Option Addr) (N : Nat) (nss : List (List Nat)) : Prop where
  ln : nss.length = N
  at_ : ∀ k (h : k < nss.length), ∃ x, a = some x ∧ w.cell? (x.add k) = some (.string (str nss[k]))
  byt : ∀ ns ∈ nss, Byt ns

theorem ArgS.keep {w w' : World} {a : Option Addr} {N : Nat} {nss : List (List Nat)} (h : ArgS w a N nss) (hc : Chg (fun _ => False) w w') : ArgS w' a N nss :=
  ⟨h.ln, fun k hk => by
    obtain ⟨x, e, hx⟩ := h.at_ k hk
    exact ⟨x, e, cell_chg hx hc⟩, h.byt⟩

theorem infoB : (Tryd.prog.info? 24).map (fun i => (i.zero, i.size, i.bytes)) = some (some (.slice none 0 0), 1, 24) := by kernel_rfl

theorem from_v (w : World) (v : Value) (t : TypeId) : From (w.alloc (.cells #[v] t)) (some ⟨w.heap.size, 0, none⟩) 1 1 1 [v] := by
  refine ⟨rfl, .inr ⟨_, rfl, fun j u hu => ?_⟩⟩
  match j, hu with
  | 0, hu => simp at hu; subst hu; simp [Addr.add]

theorem own_sl {w : World} {B : Nat} {e : TypeId} {v : Value} {n : Nat} {xs : List Value} (h : w.ownsRow B e 1 v n xs) : ∃ ad c, v = .slice ad n c ∧ n ≤ c := by
  rcases h.2 with ⟨rfl, rfl⟩ | ⟨g, cap, cur, rfl, _, _, hnc, _⟩
  · exact ⟨none, 0, rfl, Nat.le_refl _⟩
  · exact ⟨_, cap, rfl, hnc⟩

theorem own_sm {w : World} {B : Nat} {e : TypeId} {v : Value} {n : Nat} {xs : List Value} (h : w.ownsRow B e 1 v n xs) (hn : 0 < n) : ∃ g c, v = .slice (some ⟨g, 0, none⟩) n c ∧ n ≤ c ∧ B ≤ g := by
  rcases h.2 with ⟨rfl, rfl⟩ | ⟨g, cap, cur, rfl, hB, _, hnc, _⟩
  · omega
  · exact ⟨g, cap, rfl, hnc, hB⟩

theorem own_not {w : World} {B : Nat} {v : Value} {n : Nat} {xs : List Value} (h : w.ownsRow B 24 1 v n xs) {g : Nat} {ns : List Nat} (hb : Blk w g ns) : v.ownBlock ≠ some g := by
  intro e
  obtain ⟨c, hc⟩ := ownsRow_blk h e
  obtain ⟨r, hb⟩ := hb
  rw [hb] at hc
  simp at hc

/-- What the first loop keeps. -/
structure Keeps (w0 w : World) (nss : List (List Nat)) (k : Nat) (lv fv : Value) (ts : List Lt) : Prop where
  len : ts.length = k
  tk : ts.map Lt.ns = nss.take k
  l : w.ownsRow w0.heap.size 24 1 lv k (ts.map Lt.pc)
  f : w.ownsRow w0.heap.size 24 1 fv k (ts.map Lt.fl)
  ne : ∀ g, lv.ownBlock = some g → fv.ownBlock ≠ some g
  lents : Lents w w0.heap.size ts
  chg : Chg (fun _ => False) w0 w

theorem Keeps.start (w0 : World) (nss : List (List Nat)) : Keeps w0 w0 nss 0 (.slice none 0 0) (.slice none 0 0) [] :=
  ⟨rfl, by simp, World.ownsRow_nil _ _ _ _, World.ownsRow_nil _ _ _ _, fun g e => by simp [Value.ownBlock] at e, Lents.nil _ _, Chg.refl _ _⟩

theorem Keeps.new {w0 w w' : World} {nss : List (List Nat)} {k : Nat} {lv fv : Value} {ts : List Lt} (h : Keeps w0 w nss k lv fv ts) (hc : Chg (fun _ => False) w w') : Keeps w0 w' nss k lv fv ts :=
  ⟨h.len, h.tk, ownsRow_keep h.l hc (fun _ _ f => f), ownsRow_keep h.f hc (fun _ _ f => f), h.ne, h.lents.new hc, chg_then h.chg hc⟩

/-- Half a round: a piece behind the pieces. -/
structure Half (w0 w : World) (nss : List (List Nat)) (k : Nat) (lv fv : Value) (ts : List Lt) (t : Lt) : Prop where
  len : ts.length = k
  tk : ts.map Lt.ns = nss.take k
  l : w.ownsRow w0.heap.size 24 1 lv (k + 1) (ts.map Lt.pc ++ [t.pc])
  f : w.ownsRow w0.heap.size 24 1 fv k (ts.map Lt.fl)
  ne : ∀ g, lv.ownBlock = some g → fv.ownBlock ≠ some g
  lents : Lents w w0.heap.size (ts ++ [t])
  chg : Chg (fun _ => False) w0 w

theorem Keeps.half {w0 w w' : World} {nss : List (List Nat)} {k : Nat} {lv lv' fv : Value} {ts : List Lt} {t : Lt} (h : Keeps w0 w nss k lv fv ts) (hl : Lents w w0.heap.size (ts ++ [t]))
    (ho : w'.ownsRow w0.heap.size 24 1 lv' (k + 1) (ts.map Lt.pc ++ [t.pc])) (hg : w.grownBy w' lv.ownBlock) (hm : Moved w lv lv') : Half w0 w' nss k lv' fv ts t := by
  have hc : Chg (fun j => lv.ownBlock = some j) w w' := (Chg.refl _ w).grown hg (fun j e => .inl e)
  refine ⟨h.len, h.tk, ho, ownsRow_keep h.f hc (fun g e e' => h.ne g e' e), fun g e e' => ?_, hl.keep hc (fun s hs e => own_not h.l (hl.each s hs).1 e), h.chg.grown hg (fun j e => .inr ((h.l.lt j e).1))⟩
  rcases hm g e with e1 | e1
  · exact h.ne g e1 e'
  · have := (h.f.lt g e').2
    omega

theorem Half.new {w0 w w' : World} {nss : List (List Nat)} {k : Nat} {lv fv : Value} {ts : List Lt} {t : Lt} (h : Half w0 w nss k lv fv ts t) (hc : Chg (fun _ => False) w w') : Half w0 w' nss k lv fv ts t :=
  ⟨h.len, h.tk, ownsRow_keep h.l hc (fun _ _ f => f), ownsRow_keep h.f hc (fun _ _ f => f), h.ne, h.lents.new hc, chg_then h.chg hc⟩

theorem Half.full {w0 w w' : World} {nss : List (List Nat)} {k : Nat} {lv fv fv' : Value} {ts : List Lt} {t : Lt} (h : Half w0 w nss k lv fv ts t) (hk : k < nss.length) (ht : t.ns = nss[k])
    (ho : w'.ownsRow w0.heap.size 24 1 fv' (k + 1) (ts.map Lt.fl ++ [t.fl])) (hg : w.grownBy w' fv.ownBlock) (hm : Moved w fv fv') : Keeps w0 w' nss (k + 1) lv fv' (ts ++ [t]) := by
  have hc : Chg (fun j => fv.ownBlock = some j) w w' := (Chg.refl _ w).grown hg (fun j e => .inl e)
  refine ⟨by simp [h.len], by rw [List.map_append, h.tk, List.take_succ_eq_append_getElem hk, List.map_singleton, ht], ?_, ?_, fun g e e' => ?_, h.lents.keep hc (fun s hs e => own_not h.f (h.lents.each s hs).1 e), h.chg.grown hg (fun j e => .inr ((h.f.lt j e).1))⟩
  · rw [List.map_append]
    exact ownsRow_keep h.l hc (fun g e e' => h.ne g e e')
  · rw [List.map_append]
    exact ho
  · rcases hm g e' with e1 | e1
    · exact h.ne g e e1
    · have := (h.l.lt g e).2
      omega

/-- The text 'behind'. -/
def behind : List Nat := [98, 101, 104, 105, 110, 100]
theorem behind_str : str behind = ⟨#[98, 101, 104, 105, 110, 100]⟩ := by rfl

theorem flat_len {nss : List (List Nat)} {k : Nat} (hk : k < nss.length) (h : nss.flatten.length ≤ 1048576) : (nss.take k).flatten.length + nss[k].length ≤ 1048576 := by
  have e := flat_take nss k hk
  have e2 : nss.flatten = (nss.take (k + 1)).flatten ++ (nss.drop (k + 1)).flatten := by rw [← List.flatten_append, List.take_append_drop]
  have := congrArg List.length e
  have h2 := congrArg List.length e2
  simp only [List.length_append] at this h2
  omega

/-- Written over in place. -/
def ov1 (q b : Nat) : Nat := ((b + q % 256) % 256 + 1) % 256
def over (ns : List Nat) : List Nat := (List.range ns.length).map fun q => ov1 q (ns.getD q 0)
theorem over_len (ns : List Nat) : (over ns).length = ns.length := by simp [over]
theorem over_byt (ns : List Nat) : Byt (over ns) := fun x hx => by
  obtain ⟨q, _, rfl⟩ := List.mem_map.1 hx
  exact Nat.mod_lt _ (by omega)
/-- The first q written over. -/
def opart (q : Nat) (ns : List Nat) : List Nat := (over ns).take q ++ ns.drop q
theorem opart_zero (ns : List Nat) : opart 0 ns = ns := by simp [opart]
theorem opart_all (ns : List Nat) : opart ns.length ns = over ns := by
  rw [opart, List.take_of_length_le (by rw [over_len]; exact Nat.le_refl _), List.drop_length, List.append_nil]
theorem opart_len (q : Nat) (ns : List Nat) (hq : q ≤ ns.length) : (opart q ns).length = ns.length := by
  rw [opart, List.length_append, List.length_take, over_len, List.length_drop]; omega
theorem opart_get (q : Nat) (ns : List Nat) (hq : q < ns.length) (z : Nat) : ((opart q ns ++ [z]).getD q 0) = ns.getD q 0 := by
  have h1 : ((over ns).take q).length = q := by rw [List.length_take, over_len]; omega
  simp only [opart, List.append_assoc, List.getD_eq_getElem?_getD]
  rw [List.getElem?_append_right (by omega), h1, Nat.sub_self, List.getElem?_append_left (by simp; omega)]
  simp
theorem opart_set (q : Nat) (ns : List Nat) (hq : q < ns.length) (z : Nat) : (opart q ns ++ [z]).set q (ov1 q (ns.getD q 0)) = opart (q + 1) ns ++ [z] := by
  have h1 : ((over ns).take q).length = q := by rw [List.length_take, over_len]; omega
  have h2 : (over ns).take (q + 1) = (over ns).take q ++ [ov1 q (ns.getD q 0)] := by
    rw [List.take_succ_eq_append_getElem (by rw [over_len]; exact hq)]
    simp [over]
  have h3 : ns.drop q = ns.getD q 0 :: ns.drop (q + 1) := by
    rw [List.drop_eq_getElem_cons hq]
    simp [List.getD_eq_getElem?_getD, hq]
  rw [opart, opart, h2, h3, List.append_assoc, List.append_assoc, List.append_assoc, List.set_append_right _ _ (by omega), h1, Nat.sub_self]
  rfl

def Lt.ov (t : Lt) : Lt := ⟨t.g, t.cap, over t.ns⟩
theorem Lt.ov_pc (t : Lt) : t.ov.pc = t.pc := by simp [Lt.pc, Lt.ov, over_len]
/-- The first j pieces written over. -/
def mixed (ts : List Lt) (j : Nat) : List Lt := (ts.take j).map Lt.ov ++ ts.drop j
theorem mixed_zero (ts : List Lt) : mixed ts 0 = ts := by simp [mixed]
theorem mixed_all (ts : List Lt) : mixed ts ts.length = ts.map Lt.ov := by simp [mixed]
theorem mixed_g (ts : List Lt) (j : Nat) : (mixed ts j).map Lt.g = ts.map Lt.g := by
  have : ((ts.take j).map Lt.ov).map Lt.g = (ts.take j).map Lt.g := by rw [List.map_map]; rfl
  rw [mixed, List.map_append, this, ← List.map_append, List.take_append_drop]
theorem mixed_at (ts : List Lt) (j : Nat) (hj : j < ts.length) : ts[j] ∈ mixed ts j := by
  rw [mixed, List.drop_eq_getElem_cons hj]
  exact List.mem_append_right _ (List.mem_cons_self ..)
theorem mixed_mem (ts : List Lt) (j : Nat) (hj : j < ts.length) (s : Lt) (hs : s ∈ mixed ts (j + 1)) : s = ts[j].ov ∨ s ∈ mixed ts j := by
  rw [mixed, List.take_succ_eq_append_getElem hj, List.map_append, List.append_assoc] at hs
  rw [mixed, List.drop_eq_getElem_cons hj]
  rcases List.mem_append.1 hs with h | h
  · exact .inr (List.mem_append_left _ h)
  · rcases List.mem_append.1 h with h | h
    · simp at h
      exact .inl h
    · exact .inr (List.mem_append_right _ (List.mem_cons_of_mem _ h))
theorem mixed_other (ts : List Lt) (j : Nat) (hj : j < ts.length) (hne : (ts.map Lt.g).Pairwise (· ≠ ·)) (s : Lt) (hs : s ∈ mixed ts (j + 1)) (h : s ≠ ts[j].ov) : s.g ≠ ts[j].g := by
  rw [mixed, List.take_succ_eq_append_getElem hj, List.map_append, List.append_assoc] at hs
  have e : ts = ts.take j ++ ([ts[j]] ++ ts.drop (j + 1)) := by
    rw [List.singleton_append, ← List.drop_eq_getElem_cons hj, List.take_append_drop]
  have hp := hne
  rw [e, List.map_append, List.map_append, List.pairwise_append, List.pairwise_append] at hp
  obtain ⟨_, ⟨_, _, h2⟩, h1⟩ := hp
  rcases List.mem_append.1 hs with hm | hm
  · obtain ⟨s', hs', rfl⟩ := List.mem_map.1 hm
    exact h1 _ (List.mem_map.2 ⟨s', hs', rfl⟩) _ (by simp)
  · rcases List.mem_append.1 hm with hm | hm
    · simp at hm
      exact absurd hm h
    · exact (h2 ts[j].g (by simp) s.g (List.mem_map.2 ⟨s, hm, rfl⟩)).symm

/-- One more piece written over. -/
theorem Lents.over {w w' : World} {B : Nat} {ts : List Lt} {j : Nat} (h : Lents w B (mixed ts j)) (hj : j < ts.length) (hc : Chg (fun k => k = ts[j].g) w w') (hb : Blk w' ts[j].g (over ts[j].ns ++ [165])) : Lents w' B (mixed ts (j + 1)) := by
  have hne := h.ne
  rw [mixed_g] at hne
  obtain ⟨_, h2, h3, _⟩ := h.each _ (mixed_at ts j hj)
  refine ⟨fun s hs => ?_, by rw [mixed_g]; exact hne⟩
  by_cases e : s = ts[j].ov
  · subst e
    exact ⟨hb, by show (YtnedllhlmddmoabDoor.over _).length + 1 ≤ _; rw [over_len]; exact h2, h3, over_byt _⟩
  · rcases mixed_mem ts j hj s hs with e1 | e1
    · exact absurd e1 e
    · exact ⟨(h.each s e1).1.keep hc (mixed_other ts j hj hne s hs e), (h.each s e1).2⟩
theorem over_flat (ts : List Lt) (k : Nat) (hk : k < ts.length) : (((ts.take (k + 1)).map fun t => YtnedllhlmddmoabDoor.over t.ns).flatten) = ((ts.take k).map fun t => YtnedllhlmddmoabDoor.over t.ns).flatten ++ YtnedllhlmddmoabDoor.over ts[k].ns := by
  rw [List.take_succ_eq_append_getElem hk, List.map_append, List.flatten_append, List.map_singleton, List.flatten_singleton]
end Go.Proofs.YtnedllhlmddmoabDoor
