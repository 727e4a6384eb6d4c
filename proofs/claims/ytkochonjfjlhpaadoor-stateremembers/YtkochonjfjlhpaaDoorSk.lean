/- StateRemembers; of no statement by itself. -/
import Derived.Test.YtkochonjfjlhpaaDoorSj
import Derived.Test.YtkochonjfjlhpaaDoorRt
import Derived.Deep.DeepCutAuto
namespace Go.Proofs.YtkochonjfjlhpaaDoor
open Go.RowKit
open St12
set_option linter.unusedVariables false
set_option linter.unusedSimpArgs false

theorem from_oneI (w : World) (x : Value) (t : TypeId) : From (w.alloc (.cells #[x] t)) (some ⟨w.heap.size, 0, none⟩) 1 1 1 [x] := by
  refine ⟨rfl, .inr ⟨_, rfl, fun j u h => ?_⟩⟩
  have hb : (w.alloc (.cells #[x] t)).heap[w.heap.size]? = some (.cells #[x] t (0, 0)) := heap_alloc_last _ _
  match j, h with
  | 0, h =>
    injection h with h
    subst h
    show (w.alloc (.cells #[x] t)).cell? ⟨w.heap.size, 0, none⟩ = _
    unfold World.cell?
    rw [hb]
    rfl
theorem own_succ {W : World} {base : Nat} {e : TypeId} {v : Value} {k : Nat} {xs : List Value} (h : W.ownsRow base e 1 v (k + 1) xs) : ∃ g cap, v = .slice (some ⟨g, 0, none⟩) (k + 1) cap := by
  rcases h.2 with ⟨_, e⟩ | ⟨g, cap, cur, rfl, _⟩
  · omega
  · exact ⟨g, cap, rfl⟩
/-- What lies in memory on the way. -/
structure Mm (w wr : World) (bs : Nat) (s : Stt) (g c m : Nat) (seen : List Int) : Prop where
  chg : Chg (fun _ => False) w wr
  box : wr.heap[bs]? = some (.cells #[.int .i64 s.n, .int .i64 s.a, .int .i64 s.b, .int .i64 s.c, .int .i64 s.d] 38 (0, 0))
  b0 : w.heap.size ≤ bs
  own : wr.ownsRow w.heap.size 3 1 (.slice (some ⟨g, 0, none⟩) m c) m (seen.map (Value.int .i64))
theorem Mm.new {w wr wr' : World} {bs : Nat} {s : Stt} {g c m : Nat} {seen : List Int} (h : Mm w wr bs s g c m seen) (hc : Chg (fun _ => False) wr wr') : Mm w wr' bs s g c m seen :=
  ⟨chg_then h.chg hc, blk_keep h.box hc (fun f => f), h.b0, ownsRow_keep h.own hc (fun _ _ f => f)⟩
theorem Mm.ne {w wr : World} {bs : Nat} {s : Stt} {g c m : Nat} {seen : List Int} (h : Mm w wr bs s g c m seen) : g ≠ bs := fun e => by
  obtain ⟨cur, hb⟩ := owns_blk h.own (g := g) rfl
  rw [e] at hb
  exact ty_ne h.box hb (by decide)
theorem Mm.put {w wr wr' : World} {bs : Nat} {s t : Stt} {g c m : Nat} {seen : List Int} (h : Mm w wr bs s g c m seen) (hc : Chg (fun q => q = bs) wr wr') (hb : wr'.heap[bs]? = some (.cells #[.int .i64 t.n, .int .i64 t.a, .int .i64 t.b, .int .i64 t.c, .int .i64 t.d] 38 (0, 0))) : Mm w wr' bs t g c m seen :=
  ⟨h.chg.trans hc (fun z e => .inr (by have := h.b0; omega)), hb, h.b0, ownsRow_keep h.own hc (fun z e f => by injection e with e; exact h.ne (e.trans f))⟩
theorem Mm.grow {w wr w1 w' : World} {bs : Nat} {s : Stt} {g c m g' c' : Nat} {seen : List Int} {x : Int} (h : Mm w wr bs s g c m seen) (h1 : Chg (fun _ => False) wr w1) (hg : w1.grownBy w' (some g)) (ho : w'.ownsRow w.heap.size 3 1 (.slice (some ⟨g', 0, none⟩) (m + 1) c') (m + 1) (seen.map (Value.int .i64) ++ [.int .i64 x])) : Mm w w' bs s g' c' (m + 1) (seen ++ [x]) := by
  have hh := h.new h1
  have c2 : Chg (fun q => q = g) w1 w' := (Chg.refl _ w1).grown hg (fun z e => by injection e with e; exact .inl e.symm)
  have hgl := (h.own.lt g rfl).1
  exact ⟨hh.chg.trans c2 (fun z e => .inr (by omega)), blk_keep hh.box c2 (fun e => h.ne e.symm), h.b0, by rw [List.map_append]; exact ho⟩
theorem Mm.row {w wr : World} {bs : Nat} {s : Stt} {g c m : Nat} {seen : List Int} (h : Mm w wr bs s g c m seen) : ∀ (k : Nat) (z : Int), seen[k]? = some z → ∃ g', some (⟨g, 0, none⟩ : Addr) = some ⟨g', 0, none⟩ ∧ wr.cell? ⟨g', k, none⟩ = some (.int .i64 z) := fun k z hk => by
  have := h.own.cells (g := g) rfl k (.int .i64 z) (by rw [List.getElem?_map, hk]; rfl)
  refine ⟨g, rfl, ?_⟩
  rw [show (⟨g, k, none⟩ : Addr) = (⟨g, 0, none⟩ : Addr).add k from by simp [Addr.add]]
  exact this
theorem repI_mem {t : Stt} {L : Int} {seen : List Int} (h : Rem t L seen) (k : Nat) : repI t k ∈ seen := by
  unfold repI
  split
  · exact h.ma
  · exact h.mb
  · exact h.mc
  · exact h.md
theorem rep_nat (s : Stt) {j : Nat} (h : j < 4) : rep s (j : Int) = repI s j := by
  rcases j with _ | _ | _ | _ | j
  · rfl
  · rfl
  · rfl
  · rfl
  · omega
theorem Mm.len {w wr : World} {bs : Nat} {s : Stt} {g c m : Nat} {seen : List Int} (h : Mm w wr bs s g c m seen) : seen.length = m := by have := h.own.1; simpa using this
theorem infoI : ∃ i0, Tryd.prog.info? 3 = some i0 ∧ i0.zero = some (.int .i64 0) ∧ i0.size = 1 ∧ i0.bytes = 8 := by
  have h : (Tryd.prog.info? 3).map (fun i => (i.zero, i.size, i.bytes)) = some (some (.int .i64 0), 1, 8) := by kernel_rfl
  cases e : Tryd.prog.info? 3 with
  | none => rw [e] at h; cases h
  | some i0 =>
    rw [e] at h
    simp at h
    exact ⟨i0, rfl, h.1, h.2.1, h.2.2⟩
theorem right_I {s : Stt} (h : right s) : s.I := by
  obtain ⟨⟨h1, h2⟩, ⟨a1, a2⟩, ⟨b1, b2⟩, ⟨c1, c2⟩, ⟨d1, d2⟩⟩ := h
  exact ⟨⟨by omega, by omega⟩, ⟨by omega, by omega⟩, ⟨by omega, by omega⟩, ⟨by omega, by omega⟩, ⟨by omega, by omega⟩⟩
set_option maxHeartbeats 8000000 in
set_option maxRecDepth 100000 in
theorem remembers_any {Tab : World → Prop} (S : StSpec Tab) (ad : Option Addr) (L c : Nat) (l : List Sym) (hl : l.length = L) (hL : L ≤ 8796093022208) (w : World) (hT : Tab w) (hrow : SymL w ad l) : Calls Tryd.prog 5 #[.slice ad L c] w fun e w' => e = .returned (.bool true) ∧ Chg (fun _ => False) w w' := by
  have HT : Hid (Tab w) := hT
  have HR : Hid (SymL w ad l) := hrow
  have HLL : Hid (l.length = L) := hl
  have hLi : (L : Int) ≤ 8796093022208 := by omega
  have HN : Hid (Calls Tryd.prog 14 #[] w fun e w' => e = .returned (.agg #[.int .i64 0, .int .i64 1, .int .i64 1, .int .i64 1, .int .i64 1]) ∧ Chg (fun _ => False) w w') := S.new w hT
  clear hT hrow hl
  go_enter Tryd.func5, Tryd.ntmps5
  go_wp2_with fail
  refine Calls.mono HN.out ?_
  rintro z w1 ⟨rfl, c1⟩
  have HM : Hid (Mm w ((w1.alloc (.cells #[.int .i64 0, .int .i64 1, .int .i64 1, .int .i64 1, .int .i64 1] 38)).alloc (.cells #[.int .i64 1] 3)) w1.heap.size st0 (w1.heap.size + 1) 1 1 [1]) := by
    have h1 := heap_alloc_last w1 (.cells #[.int .i64 0, .int .i64 1, .int .i64 1, .int .i64 1, .int .i64 1] 38)
    have h2 := heap_alloc_last (w1.alloc (.cells #[.int .i64 0, .int .i64 1, .int .i64 1, .int .i64 1, .int .i64 1] 38)) (.cells #[.int .i64 1] 3)
    rw [World.size_alloc] at h2
    exact ⟨(c1.alloc _).alloc _, blk_keep h1 (chg_one _ _) (fun f => f), c1.size, rfl, .inr ⟨_, 1, _, rfl, by have := c1.size; omega, h2, by omega, by unfold maxLen; omega, rfl, rfl⟩⟩
  clear HN c1
  go_wp2_with fail
  generalize (w1.alloc (.cells #[.int .i64 0, .int .i64 1, .int .i64 1, .int .i64 1, .int .i64 1] 38)).alloc (.cells #[.int .i64 1] 3) = W1 at *
  generalize w1.heap.size + 1 = g0 at *
  generalize w1.heap.size = bs at *
  go_loopw [4, 5, 6] (fun v4 v5 v6 wr => ∃ (i m g cc : Nat) (s : Stt) (lt : Int) (seen : List Int), i ≤ L ∧ m ≤ i + 1 ∧ lt ≤ (i : Int) + 3 ∧ v4 = .slice (some ⟨g, 0, none⟩) m cc ∧ v5 = .int .i64 lt ∧ v6 = .int .i64 (i : Int) ∧ Hid (Rem s lt seen) ∧ Hid (Mm w wr bs s g cc m seen)) (fun _ _ v6 _ => L - (intOf v6).toNat)
  case atStart => exact ⟨0, 1, g0, 1, st0, 3, [1], Nat.zero_le _, by omega, by omega, rfl, rfl, rfl, rem0, HM.out⟩
  case round =>
    clear HM
    obtain ⟨i, m, g, cc, s, lt, seen, hi, hm, hlt, rfl, rfl, rfl, HRE, HM⟩ := hrel
    have hii : (i : Int) ≤ 8796093022208 := by omega
    have hl0 : 0 ≤ lt := HRE.out.l0
    have hl9 : lt ≤ 8796093022212 := by omega
    by_cases hin : i < L
    · have hd1 : decide ((i : Int) < (L : Int)) = true := by simp; omega
      have hd1' : decide (i < L) = true := decide_eq_true hin
      obtain ⟨y, hy⟩ : ∃ y, l[i]? = some y := ⟨l[i]'(by rw [HLL.out]; exact hin), List.getElem?_eq_getElem _⟩
      have HSY : Hid (SymL wr ad l) := HR.out.new HM.out.chg
      obtain ⟨hyI, b, off, rfl, h0, h1, h2, h3⟩ := HSY.out i y hy
      obtain ⟨k, yb, yl, yd⟩ := y
      simp only at h0 h1 h2 h3
      have HY : Hid (l[i]? = some ⟨k, yb, yl, yd⟩) := hy
      have HYI : Hid _ := hyI
      clear hy hyI
      obtain ⟨t, ht⟩ : ∃ t, (nxt s ⟨k, yb, yl, yd⟩).1 = t := ⟨_, rfl⟩
      obtain ⟨E, hE⟩ : ∃ E, (nxt s ⟨k, yb, yl, yd⟩).2 = E := ⟨_, rfl⟩
      have HNX : Hid (nxt s ⟨k, yb, yl, yd⟩ = (t, E)) := by show _ = _; rw [← ht, ← hE]
      have HX : Hid (∀ w', Tab w' → Calls Tryd.prog 15 #[.agg #[.int .i64 s.n, .int .i64 s.a, .int .i64 s.b, .int .i64 s.c, .int .i64 s.d], .agg #[.int .i64 k, .int .u8 yb, .int .i64 yl, .int .i64 yd]] w' fun e w'' => e = .returned (.tuple #[.agg #[.int .i64 t.n, .int .i64 t.a, .int .i64 t.b, .int .i64 t.c, .int .i64 t.d], .int .i64 E]) ∧ Chg (fun _ => False) w' w'') := fun w' h => by
        have := S.next s ⟨k, yb, yl, yd⟩ w' h (right_I HRE.out.rt) HYI.out
        rw [ht, hE] at this
        exact this
      clear ht hE
      have HTA : Hid (∀ w', Chg (fun _ => False) wr w' → Tab w') := fun w' h => S.keep HT.out (chg_then HM.out.chg h)
      have HBX : Hid _ := HM.out.box
      have HSZ : Hid (bs < wr.heap.size) := lt_of_blk HM.out.box
      go_upto_region 7 with fail
      generalize wr = W at *
      refine wp_region_setM (mk := fun u => #[_, _, _, _, _, _, _, u 7, _, _, _, _, _, _, _, _, _, _, _, u 19, u 20, u 21, u 22, u 23, u 24, u 25, u 26, u 27, _, _, _, _, _, _, _, _, _, _, _, _, _, _, _, _, _, _, _, _, _, _, _, _, _, _, _, _, _, _, _, _, _, _, _, _, _, _, _, _, _, _, _, _, _, _, _, _, _, _, _, _, _, _, _, _, _, _, _, _, _, _, _, _, _, _, _, _, _, _, _, _, _, _, _, _, _, _, _, _, _, _, _, _, _, _, _, _, _, _, _, _, _, _, _, _, _, _, _, _, _, _, _, _, _, _, _, _, _]) (G := lookG [(20, .agg #[.int .i64 s.n, .int .i64 s.a, .int .i64 s.b, .int .i64 s.c, .int .i64 s.d]), (21, .slice (some ⟨b, off, none⟩) L c), (22, .int .i64 (i : Int)), (23, .pointer (some ⟨b, off + i * 4, none⟩)), (24, .agg #[.int .i64 k, .int .u8 yb, .int .i64 yl, .int .i64 yd]), (25, .tuple #[.agg #[.int .i64 t.n, .int .i64 t.a, .int .i64 t.b, .int .i64 t.c, .int .i64 t.d], .int .i64 E]), (19, .tuple #[.agg #[.int .i64 t.n, .int .i64 t.a, .int .i64 t.b, .int .i64 t.c, .int .i64 t.d], .int .i64 E]), (26, .agg #[.int .i64 t.n, .int .i64 t.a, .int .i64 t.b, .int .i64 t.c, .int .i64 t.d]), (27, .int .i64 E)]) (J := fun L_ u ww => Chg (fun _ => False) W ww ∧ (L_ 9 = true → ∃ b7, u 7 = .pointer (some ⟨b7, 0, none⟩) ∧ W.heap.size ≤ b7 ∧ ww.heap[b7]? = some (.cells (if L_ 10 = true then #[.int .i64 t.n, .int .i64 t.a, .int .i64 t.b, .int .i64 t.c, .int .i64 t.d] else #[.int .i64 0, .int .i64 0, .int .i64 0, .int .i64 0, .int .i64 0]) 38 (0, 0))) ∧ (L_ 10 = true → L_ 9 = true)) [5, 9, 10] ([]) (fun q => match q with | 7 => u7 | 19 => u19 | 20 => u20 | 21 => u21 | 22 => u22 | 23 => u23 | 24 => u24 | 25 => u25 | 26 => u26 | 27 => u27 | _ => undef) rfl (by kernel_rfl) 11 _ rfl rfl (by kernel_rfl) (by kernel_rfl) ?_ ?_ ?_ ?_ ?_
      · repeat (refine ⟨fun _ _ => rfl, ?_⟩)
        exact trivial
      · intro L_ L2 u u2 ww h hj
        have e7 : u 7 = u2 7 := (h 9 (by decide)).2
        have l9 : L_ 9 = L2 9 := (h 9 (by decide)).1
        have l10 : L_ 10 = L2 10 := (h 10 (by decide)).1
        show _ ∧ _ ∧ _
        rw [← e7, ← l9, ← l10]
        exact hj
      · exact ⟨(Chg.refl _ W).drew, (fun h => nomatch h), (fun h => nomatch h)⟩
      · refine ⟨?_, ?_, ?_, ?_, ?_, ?_, ?_, ?_, ?_, ?_, ?_, trivial⟩
        · show StepRS _ _ _ _ _ _ _ _ -- 20
          unfold StepRS
          intro L_ u w_ hj hd K hK
          clear hd
          obtain ⟨q0, q1, q2, q3, q4⟩ := cells5 (blk_keep HBX.out hj.1 (fun f => f))
          clear hj
          go_simp
          exact hK.out _ rfl
        · show StepRS _ _ _ _ _ _ _ _ -- 21
          unfold StepRS
          intro L_ u w_ hj hd K hK
          clear hd
          clear hj
          go_simp
          exact hK.out _ rfl
        · show StepRS _ _ _ _ _ _ _ _ -- 22
          unfold StepRS
          intro L_ u w_ hj hd K hK
          clear hd
          clear hj
          go_simp
          exact hK.out _ rfl
        · show StepRS _ _ _ _ _ _ _ _ -- 23
          unfold StepRS
          intro L_ u w_ hj hd K hK
          have h21 : u 21 = .slice (some ⟨b, off, none⟩) L c := hd.get 1 (by kernel_rfl)
          have h22 : u 22 = .int .i64 (i : Int) := hd.get 2 (by kernel_rfl)
          clear hd
          simp only [h21, h22] at hK
          clear hj
          go_simp
          exact hK.out _ rfl
        · show StepRS _ _ _ _ _ _ _ _ -- 24
          unfold StepRS
          intro L_ u w_ hj hd K hK
          have h23 : u 23 = .pointer (some ⟨b, off + i * 4, none⟩) := hd.get 3 (by kernel_rfl)
          clear hd
          simp only [h23] at hK
          have q0 := cell_chg h0 hj.1
          have q1 := cell_chg h1 hj.1
          have q2 := cell_chg h2 hj.1
          have q3 := cell_chg h3 hj.1
          clear hj
          go_simp
          exact hK.out _ rfl
        · show StepWS _ _ _ _ _ _ _ _ _ -- 25
          unfold StepWS
          intro L_ u w_ hj hli hwt hd K hK
          have h20 : u 20 = .agg #[.int .i64 s.n, .int .i64 s.a, .int .i64 s.b, .int .i64 s.c, .int .i64 s.d] := hd.get 0 (by kernel_rfl)
          have h24 : u 24 = .agg #[.int .i64 k, .int .u8 yb, .int .i64 yl, .int .i64 yd] := hd.get 4 (by kernel_rfl)
          clear hd
          simp only [h20, h24] at hK
          obtain ⟨hc, h9, h10⟩ := hj
          go_simp
          go_at_call 15
          refine (HX.out w_ (HTA.out w_ hc)).mono ?_
          rintro z w2 ⟨rfl, c2⟩
          refine hK.out _ w2 ⟨chg_then hc c2, fun e => ?_, h10⟩ rfl
          obtain ⟨b7, e7, hb7, hk7⟩ := h9 e
          exact ⟨b7, e7, hb7, blk_keep hk7 c2 (fun f => f)⟩
        · show StepRS _ _ _ _ _ _ _ _ -- 19
          unfold StepRS
          intro L_ u w_ hj hd K hK
          have h25 : u 25 = .tuple #[.agg #[.int .i64 t.n, .int .i64 t.a, .int .i64 t.b, .int .i64 t.c, .int .i64 t.d], .int .i64 E] := hd.get 5 (by kernel_rfl)
          clear hd
          simp only [h25] at hK
          clear hj
          go_simp
          exact hK.out _ rfl
        · show StepRS _ _ _ _ _ _ _ _ -- 26
          unfold StepRS
          intro L_ u w_ hj hd K hK
          have h19 : u 19 = .tuple #[.agg #[.int .i64 t.n, .int .i64 t.a, .int .i64 t.b, .int .i64 t.c, .int .i64 t.d], .int .i64 E] := hd.get 6 (by kernel_rfl)
          clear hd
          simp only [h19] at hK
          clear hj
          go_simp
          exact hK.out _ rfl
        · show StepRS _ _ _ _ _ _ _ _ -- 27
          unfold StepRS
          intro L_ u w_ hj hd K hK
          have h19 : u 19 = .tuple #[.agg #[.int .i64 t.n, .int .i64 t.a, .int .i64 t.b, .int .i64 t.c, .int .i64 t.d], .int .i64 E] := hd.get 6 (by kernel_rfl)
          clear hd
          simp only [h19] at hK
          clear hj
          go_simp
          exact hK.out _ rfl
        · show StepWS _ _ _ _ _ _ _ _ _ -- 7
          unfold StepWS
          intro L_ u w_ hj hli hwt hd K hK
          clear hd
          obtain ⟨hc, h9, h10⟩ := hj
          have n9 : L_ 9 ≠ true := by rw [hli]; decide
          have n10 : ¬ L_ 10 = true := fun e => n9 (h10 e)
          go_simp
          refine hK.out _ _ ⟨hc.alloc _, fun _ => ⟨_, rfl, hc.size, ?_⟩, fun _ => rfl⟩ trivial
          show _ = some (Obj.cells (if L_ 10 = true then #[.int .i64 t.n, .int .i64 t.a, .int .i64 t.b, .int .i64 t.c, .int .i64 t.d] else #[.int .i64 0, .int .i64 0, .int .i64 0, .int .i64 0, .int .i64 0]) 38 (0, 0))
          rw [if_neg n10]
          exact heap_alloc_last _ _
        · show StepWS _ _ _ _ _ _ _ _ _ -- #10
          unfold StepWS
          intro L_ u w_ hj hli hwt hd K hK
          have h26 : u 26 = .agg #[.int .i64 t.n, .int .i64 t.a, .int .i64 t.b, .int .i64 t.c, .int .i64 t.d] := hd.get 7 (by kernel_rfl)
          clear hd
          simp only [h26] at hK
          obtain ⟨hc, h9, h10⟩ := hj
          have l9 : L_ 9 = true := hwt ⟨9, .data⟩ (by simp) rfl
          have n10 : ¬ L_ 10 = true := by rw [hli]; decide
          obtain ⟨b7, e7, hb7, hk7⟩ := h9 l9
          rw [if_neg n10] at hk7
          obtain ⟨⟨p0, f0⟩, ⟨p1, f1⟩, ⟨p2, f2⟩, ⟨p3, f3⟩, ⟨p4, f4⟩, hblk, hchg⟩ := put5_of hk7 (.int .i64 t.n) (.int .i64 t.a) (.int .i64 t.b) (.int .i64 t.c) (.int .i64 t.d)
          have HL9 : Hid (L_ 9 = true) := l9
          have HBK : Hid _ := hblk
          have HCH : Hid (Chg (fun _ => False) W _) := hc.trans hchg (fun z e => .inr (by omega))
          clear l9 n10 h9 h10 hblk hchg
          simp only [e7] at hK ⊢
          go_simp
          exact hK.out undef _ ⟨HCH.out, fun _ => ⟨b7, e7, hb7, HBK.out⟩, fun _ => HL9.out⟩ trivial
      · intro u w7 hj hA K hK
        obtain ⟨hc7, h7, _⟩ := hj
        obtain ⟨b7, e7, hb7, hk7⟩ := h7 rfl
        rw [if_pos rfl] at hk7
        have e27 : u 27 = .int .i64 E := hA.at 27 (by kernel_rfl)
        have hM7 := HM.out.new hc7
        have HM7 : Hid (Mm w w7 bs s g cc m seen) := hM7
        have HB7 : Hid (w7.heap[b7]? = some (.cells #[.int .i64 t.n, .int .i64 t.a, .int .i64 t.b, .int .i64 t.c, .int .i64 t.d] 38 (0, 0))) := hk7
        have hy0 := cell_chg h0 hc7
        have hy1 := cell_chg h1 hc7
        have hy2 := cell_chg h2 hc7
        have hy3 := cell_chg h3 hc7
        have HG7 : Hid (bs < b7) := by have := HSZ.out; show _ < _; omega
        clear hA h7 hk7 hM7 hc7 h0 h1 h2 h3 HX HTA HBX HSZ HM hb7
        go_simp
        refine hK.out _ _ ?_
        clear hK e7 e27 K
        by_cases hf : formed ⟨k, yb, yl, yd⟩ = 0
        · obtain rfl : E = 0 := by have := HNX.out; rw [nxt_in HRE.out.rt hf] at this; injection this with _ h; exact h.symm
          have hkind := formed_kind hf
          simp only at hkind
          have HF : Hid (formed ⟨k, yb, yl, yd⟩ = 0) := hf
          obtain ⟨a0, a1, a2, a3, a4⟩ := cells5 HM7.out.box
          clear hf
          rcases hkind with rfl | ⟨rfl, _⟩ | ⟨rfl, _, _, hk1, hk2⟩ | rfl
          · obtain ⟨t', ht', HR2, hta⟩ := rem_lit (yb := yb) (yl := yl) (yd := yd) HRE.out
            obtain rfl : t = t' := by have := HNX.out; rw [ht'] at this; injection this with h; exact h.symm
            clear ht' HNX
            have HR2 : Hid _ := HR2
            --STOPK
            have HKD : Hid _ := fun ww => kind_any 1 yb yl yd ww
            go_wp2_with fail
            refine Calls.mono (HKD.out _) ?_
            rintro z w8 ⟨rfl, c8⟩
            have HM8 : Hid (Mm w w8 bs s g cc m seen) := HM7.out.new c8
            have HB8 : Hid (w8.heap[b7]? = some (.cells #[.int .i64 t.n, .int .i64 t.a, .int .i64 t.b, .int .i64 t.c, .int .i64 t.d] 38 (0, 0))) := blk_keep HB7.out c8 (fun f => f)
            have HM9 : Hid (Mm w w8 bs s g cc m seen) := HM8.out
            have HB9 : Hid (w8.heap[b7]? = some (.cells #[.int .i64 t.n, .int .i64 t.a, .int .i64 t.b, .int .i64 t.c, .int .i64 t.d] 38 (0, 0))) := HB8.out
            clear HM8 HB8 HM7 HB7 a0 a1 a2 a3 a4 hy0 hy1 hy2 hy3 c8 HKD
            rw [← hta]
            have hb1 : decide (0 < lt + 1) = true := decide_eq_true (by omega)
            by_cases hh3 : 3 ≤ lt + 1
            · have hx2 : decide (2 ≤ lt + 1) = true := decide_eq_true (by omega)
              have hx3 : decide (3 ≤ lt + 1) = true := decide_eq_true hh3
              have hx4 : decide (3 < t.n) = false := decide_eq_false (by have := HR2.out.l2 (by omega); omega)
              have hx5 : (t.n != 0) = false := by rw [HR2.out.l3 hh3]; rfl
              try clear hta
              --STOP0
              have HRT : Hid (right t) := HR2.out.rt
              have hn0 : decide (t.n < 0) = false := decide_eq_false (by have := HRT.out.1.1; omega)
              have hn1 : decide (11 < t.n) = false := decide_eq_false (by have := HRT.out.1.2; omega)
              obtain ⟨t0, t1, t2, t3, t4⟩ := cells5 HB9.out
              obtain ⟨⟨p0, f0⟩, ⟨p1, f1⟩, ⟨p2, f2⟩, ⟨p3, f3⟩, ⟨p4, f4⟩, hblk, hchg⟩ := put5_of HM9.out.box (.int .i64 t.n) (.int .i64 t.a) (.int .i64 t.b) (.int .i64 t.c) (.int .i64 t.d)
              have HME : Hid (Mm w _ bs t g cc m seen) := HM9.out.put hchg hblk
              have HLI : Hid _ := S.lit t _ (S.keep HT.out HME.out.chg) (right_I HRT.out)
              rw [show St12.lit t.n = true from HR2.out.li.trans (by simp; omega)] at HLI
              unfold stv at HLI
              have hfr : (t.a != t.a) = false := by simp
              have HQ : Hid _ := cells5 hblk
              clear hblk hchg HM9 HB9
              --STOPA
              go_upto_region 26 with fail
              generalize ((((w8.setCell ⟨bs, 0, none⟩ (.int .i64 t.n)).setCell ⟨bs, 1, none⟩ (.int .i64 t.a)).setCell ⟨bs, 2, none⟩ (.int .i64 t.b)).setCell ⟨bs, 3, none⟩ (.int .i64 t.c)).setCell ⟨bs, 4, none⟩ (.int .i64 t.d) = We at *
              clear t0 t1 t2 t3 t4 p0 p1 p2 p3 p4 f0 f1 f2 f3 f4
              obtain ⟨q0, q1, q2, q3, q4⟩ := HQ.out
              --STOP1
              go_wp2_with fail
              --STOP2
              refine Calls.mono HLI.out ?_
              rintro z wf ⟨rfl, cf⟩
              have HMF : Hid (Mm w wf bs t g cc m seen) := HME.out.new cf
              obtain ⟨r0, r1, r2, r3, r4⟩ := cells5 HMF.out.box
              clear HME HLI cf q0 q1 q2 q3 q4 HQ
              go_wp2_with fail
              clear r0 r1 r2 r3 r4 hfr
              go_loopw [10] (fun v wq => ∃ j : Nat, j ≤ 4 ∧ v = .int .i64 (j : Int) ∧ wq = wf) (fun v _ => 4 - (intOf v).toNat)
              case atStart => exact ⟨0, by omega, rfl, rfl⟩
              case round =>
                obtain ⟨j, hj, rfl, rfl⟩ := hrel
                have hji : (j : Int) ≤ 4 := by omega
                by_cases h4 : j < 4
                · have hd4 : decide ((j : Int) < 4) = true := by simp; omega
                  have hd4' : decide (j < 4) = true := decide_eq_true h4
                  have kc := rep_cell HMF.out.box h4
                  have HAM : Hid _ := among_any (some ⟨g, 0, none⟩) m cc seen (repI t j) HMF.out.len (by omega) (repI_mem HR2.out j) _ HMF.out.row
                  obtain ⟨r, hr⟩ : ∃ r, repI t j = r := ⟨_, rfl⟩
                  rw [hr] at kc HAM
                  clear hr
                  go_wp2_with fail
                  refine Calls.mono HAM.out ?_
                  rintro z wz ⟨rfl, rfl⟩
                  clear HAM
                  go_wp2_with fail
                  exact ⟨⟨j + 1, by omega, by go_num, trivial⟩, by simp [intOf]; omega⟩
                · have hd4 : decide ((j : Int) < 4) = false := by simp; omega
                  have hd4' : decide (j < 4) = false := decide_eq_false h4
                  go_wp2_with fail
                  exact ⟨⟨i + 1, m, g, cc, t, (lt + 1), seen, by omega, by omega, by omega, rfl, by go_num, by go_num, HR2.out, HMF.out⟩, by simp [intOf]; omega⟩
            · have hx3 : decide (3 ≤ lt + 1) = false := decide_eq_false hh3
              by_cases hh2 : 2 ≤ lt + 1
              · have hx2 : decide (2 ≤ lt + 1) = true := decide_eq_true hh2
                have hx4 : decide (3 < t.n) = false := decide_eq_false (by have := HR2.out.l2 hh2; omega)
                try clear hta
                --STOP0
                have HRT : Hid (right t) := HR2.out.rt
                have hn0 : decide (t.n < 0) = false := decide_eq_false (by have := HRT.out.1.1; omega)
                have hn1 : decide (11 < t.n) = false := decide_eq_false (by have := HRT.out.1.2; omega)
                obtain ⟨t0, t1, t2, t3, t4⟩ := cells5 HB9.out
                obtain ⟨⟨p0, f0⟩, ⟨p1, f1⟩, ⟨p2, f2⟩, ⟨p3, f3⟩, ⟨p4, f4⟩, hblk, hchg⟩ := put5_of HM9.out.box (.int .i64 t.n) (.int .i64 t.a) (.int .i64 t.b) (.int .i64 t.c) (.int .i64 t.d)
                have HME : Hid (Mm w _ bs t g cc m seen) := HM9.out.put hchg hblk
                have HLI : Hid _ := S.lit t _ (S.keep HT.out HME.out.chg) (right_I HRT.out)
                rw [show St12.lit t.n = true from HR2.out.li.trans (by simp; omega)] at HLI
                unfold stv at HLI
                have hfr : (t.a != t.a) = false := by simp
                have HQ : Hid _ := cells5 hblk
                clear hblk hchg HM9 HB9
                --STOPA
                go_upto_region 26 with fail
                generalize ((((w8.setCell ⟨bs, 0, none⟩ (.int .i64 t.n)).setCell ⟨bs, 1, none⟩ (.int .i64 t.a)).setCell ⟨bs, 2, none⟩ (.int .i64 t.b)).setCell ⟨bs, 3, none⟩ (.int .i64 t.c)).setCell ⟨bs, 4, none⟩ (.int .i64 t.d) = We at *
                clear t0 t1 t2 t3 t4 p0 p1 p2 p3 p4 f0 f1 f2 f3 f4
                obtain ⟨q0, q1, q2, q3, q4⟩ := HQ.out
                --STOP1
                go_wp2_with fail
                --STOP2
                refine Calls.mono HLI.out ?_
                rintro z wf ⟨rfl, cf⟩
                have HMF : Hid (Mm w wf bs t g cc m seen) := HME.out.new cf
                obtain ⟨r0, r1, r2, r3, r4⟩ := cells5 HMF.out.box
                clear HME HLI cf q0 q1 q2 q3 q4 HQ
                go_wp2_with fail
                clear r0 r1 r2 r3 r4 hfr
                go_loopw [10] (fun v wq => ∃ j : Nat, j ≤ 4 ∧ v = .int .i64 (j : Int) ∧ wq = wf) (fun v _ => 4 - (intOf v).toNat)
                case atStart => exact ⟨0, by omega, rfl, rfl⟩
                case round =>
                  obtain ⟨j, hj, rfl, rfl⟩ := hrel
                  have hji : (j : Int) ≤ 4 := by omega
                  by_cases h4 : j < 4
                  · have hd4 : decide ((j : Int) < 4) = true := by simp; omega
                    have hd4' : decide (j < 4) = true := decide_eq_true h4
                    have kc := rep_cell HMF.out.box h4
                    have HAM : Hid _ := among_any (some ⟨g, 0, none⟩) m cc seen (repI t j) HMF.out.len (by omega) (repI_mem HR2.out j) _ HMF.out.row
                    obtain ⟨r, hr⟩ : ∃ r, repI t j = r := ⟨_, rfl⟩
                    rw [hr] at kc HAM
                    clear hr
                    go_wp2_with fail
                    refine Calls.mono HAM.out ?_
                    rintro z wz ⟨rfl, rfl⟩
                    clear HAM
                    go_wp2_with fail
                    exact ⟨⟨j + 1, by omega, by go_num, trivial⟩, by simp [intOf]; omega⟩
                  · have hd4 : decide ((j : Int) < 4) = false := by simp; omega
                    have hd4' : decide (j < 4) = false := decide_eq_false h4
                    go_wp2_with fail
                    exact ⟨⟨i + 1, m, g, cc, t, (lt + 1), seen, by omega, by omega, by omega, rfl, by go_num, by go_num, HR2.out, HMF.out⟩, by simp [intOf]; omega⟩
              · have hx2 : decide (2 ≤ lt + 1) = false := decide_eq_false hh2
                try clear hta
                --STOP0
                have HRT : Hid (right t) := HR2.out.rt
                have hn0 : decide (t.n < 0) = false := decide_eq_false (by have := HRT.out.1.1; omega)
                have hn1 : decide (11 < t.n) = false := decide_eq_false (by have := HRT.out.1.2; omega)
                obtain ⟨t0, t1, t2, t3, t4⟩ := cells5 HB9.out
                obtain ⟨⟨p0, f0⟩, ⟨p1, f1⟩, ⟨p2, f2⟩, ⟨p3, f3⟩, ⟨p4, f4⟩, hblk, hchg⟩ := put5_of HM9.out.box (.int .i64 t.n) (.int .i64 t.a) (.int .i64 t.b) (.int .i64 t.c) (.int .i64 t.d)
                have HME : Hid (Mm w _ bs t g cc m seen) := HM9.out.put hchg hblk
                have HLI : Hid _ := S.lit t _ (S.keep HT.out HME.out.chg) (right_I HRT.out)
                rw [show St12.lit t.n = true from HR2.out.li.trans (by simp; omega)] at HLI
                unfold stv at HLI
                have hfr : (t.a != t.a) = false := by simp
                have HQ : Hid _ := cells5 hblk
                clear hblk hchg HM9 HB9
                --STOPA
                go_upto_region 26 with fail
                generalize ((((w8.setCell ⟨bs, 0, none⟩ (.int .i64 t.n)).setCell ⟨bs, 1, none⟩ (.int .i64 t.a)).setCell ⟨bs, 2, none⟩ (.int .i64 t.b)).setCell ⟨bs, 3, none⟩ (.int .i64 t.c)).setCell ⟨bs, 4, none⟩ (.int .i64 t.d) = We at *
                clear t0 t1 t2 t3 t4 p0 p1 p2 p3 p4 f0 f1 f2 f3 f4
                obtain ⟨q0, q1, q2, q3, q4⟩ := HQ.out
                --STOP1
                go_wp2_with fail
                --STOP2
                refine Calls.mono HLI.out ?_
                rintro z wf ⟨rfl, cf⟩
                have HMF : Hid (Mm w wf bs t g cc m seen) := HME.out.new cf
                obtain ⟨r0, r1, r2, r3, r4⟩ := cells5 HMF.out.box
                clear HME HLI cf q0 q1 q2 q3 q4 HQ
                go_wp2_with fail
                clear r0 r1 r2 r3 r4 hfr
                go_loopw [10] (fun v wq => ∃ j : Nat, j ≤ 4 ∧ v = .int .i64 (j : Int) ∧ wq = wf) (fun v _ => 4 - (intOf v).toNat)
                case atStart => exact ⟨0, by omega, rfl, rfl⟩
                case round =>
                  obtain ⟨j, hj, rfl, rfl⟩ := hrel
                  have hji : (j : Int) ≤ 4 := by omega
                  by_cases h4 : j < 4
                  · have hd4 : decide ((j : Int) < 4) = true := by simp; omega
                    have hd4' : decide (j < 4) = true := decide_eq_true h4
                    have kc := rep_cell HMF.out.box h4
                    have HAM : Hid _ := among_any (some ⟨g, 0, none⟩) m cc seen (repI t j) HMF.out.len (by omega) (repI_mem HR2.out j) _ HMF.out.row
                    obtain ⟨r, hr⟩ : ∃ r, repI t j = r := ⟨_, rfl⟩
                    rw [hr] at kc HAM
                    clear hr
                    go_wp2_with fail
                    refine Calls.mono HAM.out ?_
                    rintro z wz ⟨rfl, rfl⟩
                    clear HAM
                    go_wp2_with fail
                    exact ⟨⟨j + 1, by omega, by go_num, trivial⟩, by simp [intOf]; omega⟩
                  · have hd4 : decide ((j : Int) < 4) = false := by simp; omega
                    have hd4' : decide (j < 4) = false := decide_eq_false h4
                    go_wp2_with fail
                    exact ⟨⟨i + 1, m, g, cc, t, (lt + 1), seen, by omega, by omega, by omega, rfl, by go_num, by go_num, HR2.out, HMF.out⟩, by simp [intOf]; omega⟩
          · obtain ⟨t', ht', HR2, hta⟩ := rem_match HRE.out HF.out
            obtain rfl : t = t' := by have := HNX.out; rw [ht'] at this; injection this with h; exact h.symm
            clear ht' HNX
            have HR2 : Hid _ := HR2
            --STOPK
            have HKD : Hid _ := fun ww => kind_any 2 yb yl yd ww
            go_wp2_with fail
            refine Calls.mono (HKD.out _) ?_
            rintro z w8 ⟨rfl, c8⟩
            have HM8 : Hid (Mm w w8 bs s g cc m seen) := HM7.out.new c8
            have HB8 : Hid (w8.heap[b7]? = some (.cells #[.int .i64 t.n, .int .i64 t.a, .int .i64 t.b, .int .i64 t.c, .int .i64 t.d] 38 (0, 0))) := blk_keep HB7.out c8 (fun f => f)
            subst hta
            have hy3 := cell_chg hy3 c8
            have HM9 : Hid (Mm w w8 bs s g cc m seen) := HM8.out
            have HB9 : Hid (w8.heap[b7]? = some (.cells #[.int .i64 t.n, .int .i64 t.a, .int .i64 t.b, .int .i64 t.c, .int .i64 t.d] 38 (0, 0))) := HB8.out
            clear HM8 HB8 HM7 HB7 a0 a1 a2 a3 a4 hy0 hy1 hy2 c8 HKD
            have cN := chg_one w8 (.cells #[.int .i64 t.a] 3)
            have hown := ownsRow_keep HM9.out.own cN (fun _ _ f => f)
            have hsrc := from_oneI w8 (.int .i64 t.a) 3
            have hszW : w.heap.size ≤ (w8.alloc (.cells #[.int .i64 t.a] 3)).heap.size := Nat.le_trans HM9.out.chg.size cN.size
            obtain ⟨i0, hi0, hz0, hz1, hz2⟩ := infoI
            clear cN
            go_wp2_with (at_builtin; refine wpList_append_moved rfl _ _ 40 rfl w.heap.size 3 i0 (.int .i64 0) 1 8 Tryd.underlying40 hi0 hz0 hz1 hz2 rfl (by decide) _ m _ rfl (some ⟨w8.heap.size, 0, none⟩) 1 1 rfl [.int .i64 t.a] hown hsrc (by simp [Value.oneCell']) (by unfold maxLen; omega) (by omega) hszW ?_)
            intro v4 w4 ho4 hg4 _
            obtain ⟨g4, cap4, rfl⟩ := own_succ ho4
            have HMG : Hid (Mm w w4 bs s g4 cap4 (m + 1) (seen ++ [t.a])) := HM9.out.grow (chg_one _ _) hg4 ho4
            have HBG : Hid (w4.heap[b7]? = some (.cells #[.int .i64 t.n, .int .i64 t.a, .int .i64 t.b, .int .i64 t.c, .int .i64 t.d] 38 (0, 0))) := by
              have hne : g ≠ b7 := fun e => by
                obtain ⟨cur, hb⟩ := owns_blk HM9.out.own (g := g) rfl
                rw [e] at hb
                exact ty_ne HB9.out hb (by decide)
              have c2 : Chg (fun q => q = g) (w8.alloc (.cells #[.int .i64 t.a] 3)) w4 := (Chg.refl _ _).grown hg4 (fun z e => by injection e with e; exact .inl e.symm)
              exact blk_keep (blk_keep HB9.out (chg_one _ _) (fun f => f)) c2 (fun e => hne e.symm)
            clear ho4 hg4 hown hsrc hszW HM9 HB9
            have HM9 : Hid (Mm w w4 bs s g4 cap4 (m + 1) (seen ++ [t.a])) := HMG.out
            have HB9 : Hid (w4.heap[b7]? = some (.cells #[.int .i64 t.n, .int .i64 t.a, .int .i64 t.b, .int .i64 t.c, .int .i64 t.d] 38 (0, 0))) := HBG.out
            clear HMG HBG
            try clear hta
            --STOP0
            have HRT : Hid (right t) := HR2.out.rt
            have hn0 : decide (t.n < 0) = false := decide_eq_false (by have := HRT.out.1.1; omega)
            have hn1 : decide (11 < t.n) = false := decide_eq_false (by have := HRT.out.1.2; omega)
            obtain ⟨t0, t1, t2, t3, t4⟩ := cells5 HB9.out
            obtain ⟨⟨p0, f0⟩, ⟨p1, f1⟩, ⟨p2, f2⟩, ⟨p3, f3⟩, ⟨p4, f4⟩, hblk, hchg⟩ := put5_of HM9.out.box (.int .i64 t.n) (.int .i64 t.a) (.int .i64 t.b) (.int .i64 t.c) (.int .i64 t.d)
            have HME : Hid (Mm w _ bs t g4 cap4 (m + 1) (seen ++ [t.a])) := HM9.out.put hchg hblk
            have HLI : Hid _ := S.lit t _ (S.keep HT.out HME.out.chg) (right_I HRT.out)
            rw [show St12.lit t.n = false from HR2.out.li.trans (rfl)] at HLI
            unfold stv at HLI
            have hfr : (t.a != t.a) = false := by simp
            have HQ : Hid _ := cells5 hblk
            clear hblk hchg HM9 HB9
            --STOPA
            go_upto_region 26 with fail
            generalize ((((w4.setCell ⟨bs, 0, none⟩ (.int .i64 t.n)).setCell ⟨bs, 1, none⟩ (.int .i64 t.a)).setCell ⟨bs, 2, none⟩ (.int .i64 t.b)).setCell ⟨bs, 3, none⟩ (.int .i64 t.c)).setCell ⟨bs, 4, none⟩ (.int .i64 t.d) = We at *
            clear t0 t1 t2 t3 t4 p0 p1 p2 p3 p4 f0 f1 f2 f3 f4
            obtain ⟨q0, q1, q2, q3, q4⟩ := HQ.out
            --STOP1
            go_wp2_with fail
            --STOP2
            refine Calls.mono HLI.out ?_
            rintro z wf ⟨rfl, cf⟩
            have HMF : Hid (Mm w wf bs t g4 cap4 (m + 1) (seen ++ [t.a])) := HME.out.new cf
            obtain ⟨r0, r1, r2, r3, r4⟩ := cells5 HMF.out.box
            clear HME HLI cf q0 q1 q2 q3 q4 HQ
            go_wp2_with fail
            clear r0 r1 r2 r3 r4 hfr
            go_loopw [10] (fun v wq => ∃ j : Nat, j ≤ 4 ∧ v = .int .i64 (j : Int) ∧ wq = wf) (fun v _ => 4 - (intOf v).toNat)
            case atStart => exact ⟨0, by omega, rfl, rfl⟩
            case round =>
              obtain ⟨j, hj, rfl, rfl⟩ := hrel
              have hji : (j : Int) ≤ 4 := by omega
              by_cases h4 : j < 4
              · have hd4 : decide ((j : Int) < 4) = true := by simp; omega
                have hd4' : decide (j < 4) = true := decide_eq_true h4
                have kc := rep_cell HMF.out.box h4
                have HAM : Hid _ := among_any (some ⟨g4, 0, none⟩) (m + 1) cap4 (seen ++ [t.a]) (repI t j) HMF.out.len (by omega) (repI_mem HR2.out j) _ HMF.out.row
                obtain ⟨r, hr⟩ : ∃ r, repI t j = r := ⟨_, rfl⟩
                rw [hr] at kc HAM
                clear hr
                go_wp2_with fail
                refine Calls.mono HAM.out ?_
                rintro z wz ⟨rfl, rfl⟩
                clear HAM
                go_wp2_with fail
                exact ⟨⟨j + 1, by omega, by go_num, trivial⟩, by simp [intOf]; omega⟩
              · have hd4 : decide ((j : Int) < 4) = false := by simp; omega
                have hd4' : decide (j < 4) = false := decide_eq_false h4
                go_wp2_with fail
                exact ⟨⟨i + 1, (m + 1), g4, cap4, t, 0, (seen ++ [t.a]), by omega, by omega, by omega, rfl, by go_num, by go_num, HR2.out, HMF.out⟩, by simp [intOf]; omega⟩
          · obtain ⟨j, rfl⟩ : ∃ j : Nat, yd = (j : Int) := ⟨yd.toNat, by omega⟩
            have hj4 : j < 4 := by omega
            have hyl : decide ((j : Int) < 0) = false := by simp
            have hyu : decide ((3 : Int) < (j : Int)) = false := by simp; omega
            have hyu' : decide (3 < j) = false := by simp; omega
            obtain ⟨t', ht', HR2, hta⟩ := rem_rep HRE.out HF.out
            obtain rfl : t = t' := by have := HNX.out; rw [ht'] at this; injection this with h; exact h.symm
            clear ht' HNX
            have HR2 : Hid _ := HR2
            --STOPK
            have HKD : Hid _ := fun ww => kind_any 3 yb yl (j : Int) ww
            go_wp2_with fail
            refine Calls.mono (HKD.out _) ?_
            rintro z w8 ⟨rfl, c8⟩
            have HM8 : Hid (Mm w w8 bs s g cc m seen) := HM7.out.new c8
            have HB8 : Hid (w8.heap[b7]? = some (.cells #[.int .i64 t.n, .int .i64 t.a, .int .i64 t.b, .int .i64 t.c, .int .i64 t.d] 38 (0, 0))) := blk_keep HB7.out c8 (fun f => f)
            have kc := rep_cell HM8.out.box hj4
            rw [rep_nat s hj4] at hta
            rw [← hta] at kc
            have hy3 := cell_chg hy3 c8
            have HM9 : Hid (Mm w w8 bs s g cc m seen) := HM8.out
            have HB9 : Hid (w8.heap[b7]? = some (.cells #[.int .i64 t.n, .int .i64 t.a, .int .i64 t.b, .int .i64 t.c, .int .i64 t.d] 38 (0, 0))) := HB8.out
            clear HM8 HB8 HM7 HB7 a0 a1 a2 a3 a4 hy0 hy1 hy2 c8 HKD
            try clear hta
            --STOP0
            have HRT : Hid (right t) := HR2.out.rt
            have hn0 : decide (t.n < 0) = false := decide_eq_false (by have := HRT.out.1.1; omega)
            have hn1 : decide (11 < t.n) = false := decide_eq_false (by have := HRT.out.1.2; omega)
            obtain ⟨t0, t1, t2, t3, t4⟩ := cells5 HB9.out
            obtain ⟨⟨p0, f0⟩, ⟨p1, f1⟩, ⟨p2, f2⟩, ⟨p3, f3⟩, ⟨p4, f4⟩, hblk, hchg⟩ := put5_of HM9.out.box (.int .i64 t.n) (.int .i64 t.a) (.int .i64 t.b) (.int .i64 t.c) (.int .i64 t.d)
            have HME : Hid (Mm w _ bs t g cc m seen) := HM9.out.put hchg hblk
            have HLI : Hid _ := S.lit t _ (S.keep HT.out HME.out.chg) (right_I HRT.out)
            rw [show St12.lit t.n = false from HR2.out.li.trans (rfl)] at HLI
            unfold stv at HLI
            have hfr : (t.a != t.a) = false := by simp
            have HQ : Hid _ := cells5 hblk
            clear hblk hchg HM9 HB9
            --STOPA
            go_upto_region 26 with fail
            generalize ((((w8.setCell ⟨bs, 0, none⟩ (.int .i64 t.n)).setCell ⟨bs, 1, none⟩ (.int .i64 t.a)).setCell ⟨bs, 2, none⟩ (.int .i64 t.b)).setCell ⟨bs, 3, none⟩ (.int .i64 t.c)).setCell ⟨bs, 4, none⟩ (.int .i64 t.d) = We at *
            clear t0 t1 t2 t3 t4 p0 p1 p2 p3 p4 f0 f1 f2 f3 f4
            obtain ⟨q0, q1, q2, q3, q4⟩ := HQ.out
            --STOP1
            go_wp2_with fail
            --STOP2
            refine Calls.mono HLI.out ?_
            rintro z wf ⟨rfl, cf⟩
            have HMF : Hid (Mm w wf bs t g cc m seen) := HME.out.new cf
            obtain ⟨r0, r1, r2, r3, r4⟩ := cells5 HMF.out.box
            clear HME HLI cf q0 q1 q2 q3 q4 HQ
            go_wp2_with fail
            clear r0 r1 r2 r3 r4 hfr
            go_loopw [10] (fun v wq => ∃ j : Nat, j ≤ 4 ∧ v = .int .i64 (j : Int) ∧ wq = wf) (fun v _ => 4 - (intOf v).toNat)
            case atStart => exact ⟨0, by omega, rfl, rfl⟩
            case round =>
              obtain ⟨j, hj, rfl, rfl⟩ := hrel
              have hji : (j : Int) ≤ 4 := by omega
              by_cases h4 : j < 4
              · have hd4 : decide ((j : Int) < 4) = true := by simp; omega
                have hd4' : decide (j < 4) = true := decide_eq_true h4
                have kc := rep_cell HMF.out.box h4
                have HAM : Hid _ := among_any (some ⟨g, 0, none⟩) m cc seen (repI t j) HMF.out.len (by omega) (repI_mem HR2.out j) _ HMF.out.row
                obtain ⟨r, hr⟩ : ∃ r, repI t j = r := ⟨_, rfl⟩
                rw [hr] at kc HAM
                clear hr
                go_wp2_with fail
                refine Calls.mono HAM.out ?_
                rintro z wz ⟨rfl, rfl⟩
                clear HAM
                go_wp2_with fail
                exact ⟨⟨j + 1, by omega, by go_num, trivial⟩, by simp [intOf]; omega⟩
              · have hd4 : decide ((j : Int) < 4) = false := by simp; omega
                have hd4' : decide (j < 4) = false := decide_eq_false h4
                go_wp2_with fail
                exact ⟨⟨i + 1, m, g, cc, t, 0, seen, by omega, by omega, by omega, rfl, by go_num, by go_num, HR2.out, HMF.out⟩, by simp [intOf]; omega⟩
          · obtain ⟨t', ht', HR2, hta⟩ := rem_short (yb := yb) (yl := yl) (yd := yd) HRE.out
            obtain rfl : t = t' := by have := HNX.out; rw [ht'] at this; injection this with h; exact h.symm
            clear ht' HNX
            have HR2 : Hid _ := HR2
            --STOPK
            have HKD : Hid _ := fun ww => kind_any 4 yb yl yd ww
            go_wp2_with fail
            refine Calls.mono (HKD.out _) ?_
            rintro z w8 ⟨rfl, c8⟩
            have HM8 : Hid (Mm w w8 bs s g cc m seen) := HM7.out.new c8
            have HB8 : Hid (w8.heap[b7]? = some (.cells #[.int .i64 t.n, .int .i64 t.a, .int .i64 t.b, .int .i64 t.c, .int .i64 t.d] 38 (0, 0))) := blk_keep HB7.out c8 (fun f => f)
            have HM9 : Hid (Mm w w8 bs s g cc m seen) := HM8.out
            have HB9 : Hid (w8.heap[b7]? = some (.cells #[.int .i64 t.n, .int .i64 t.a, .int .i64 t.b, .int .i64 t.c, .int .i64 t.d] 38 (0, 0))) := HB8.out
            clear HM8 HB8 HM7 HB7 a0 a1 a2 a3 a4 hy0 hy1 hy2 hy3 c8 HKD
            rw [← hta]
            try clear hta
            --STOP0
            have HRT : Hid (right t) := HR2.out.rt
            have hn0 : decide (t.n < 0) = false := decide_eq_false (by have := HRT.out.1.1; omega)
            have hn1 : decide (11 < t.n) = false := decide_eq_false (by have := HRT.out.1.2; omega)
            obtain ⟨t0, t1, t2, t3, t4⟩ := cells5 HB9.out
            obtain ⟨⟨p0, f0⟩, ⟨p1, f1⟩, ⟨p2, f2⟩, ⟨p3, f3⟩, ⟨p4, f4⟩, hblk, hchg⟩ := put5_of HM9.out.box (.int .i64 t.n) (.int .i64 t.a) (.int .i64 t.b) (.int .i64 t.c) (.int .i64 t.d)
            have HME : Hid (Mm w _ bs t g cc m seen) := HM9.out.put hchg hblk
            have HLI : Hid _ := S.lit t _ (S.keep HT.out HME.out.chg) (right_I HRT.out)
            rw [show St12.lit t.n = false from HR2.out.li.trans (rfl)] at HLI
            unfold stv at HLI
            have hfr : (t.a != t.a) = false := by simp
            have HQ : Hid _ := cells5 hblk
            clear hblk hchg HM9 HB9
            --STOPA
            go_upto_region 26 with fail
            generalize ((((w8.setCell ⟨bs, 0, none⟩ (.int .i64 t.n)).setCell ⟨bs, 1, none⟩ (.int .i64 t.a)).setCell ⟨bs, 2, none⟩ (.int .i64 t.b)).setCell ⟨bs, 3, none⟩ (.int .i64 t.c)).setCell ⟨bs, 4, none⟩ (.int .i64 t.d) = We at *
            clear t0 t1 t2 t3 t4 p0 p1 p2 p3 p4 f0 f1 f2 f3 f4
            obtain ⟨q0, q1, q2, q3, q4⟩ := HQ.out
            --STOP1
            go_wp2_with fail
            --STOP2
            refine Calls.mono HLI.out ?_
            rintro z wf ⟨rfl, cf⟩
            have HMF : Hid (Mm w wf bs t g cc m seen) := HME.out.new cf
            obtain ⟨r0, r1, r2, r3, r4⟩ := cells5 HMF.out.box
            clear HME HLI cf q0 q1 q2 q3 q4 HQ
            go_wp2_with fail
            clear r0 r1 r2 r3 r4 hfr
            go_loopw [10] (fun v wq => ∃ j : Nat, j ≤ 4 ∧ v = .int .i64 (j : Int) ∧ wq = wf) (fun v _ => 4 - (intOf v).toNat)
            case atStart => exact ⟨0, by omega, rfl, rfl⟩
            case round =>
              obtain ⟨j, hj, rfl, rfl⟩ := hrel
              have hji : (j : Int) ≤ 4 := by omega
              by_cases h4 : j < 4
              · have hd4 : decide ((j : Int) < 4) = true := by simp; omega
                have hd4' : decide (j < 4) = true := decide_eq_true h4
                have kc := rep_cell HMF.out.box h4
                have HAM : Hid _ := among_any (some ⟨g, 0, none⟩) m cc seen (repI t j) HMF.out.len (by omega) (repI_mem HR2.out j) _ HMF.out.row
                obtain ⟨r, hr⟩ : ∃ r, repI t j = r := ⟨_, rfl⟩
                rw [hr] at kc HAM
                clear hr
                go_wp2_with fail
                refine Calls.mono HAM.out ?_
                rintro z wz ⟨rfl, rfl⟩
                clear HAM
                go_wp2_with fail
                exact ⟨⟨j + 1, by omega, by go_num, trivial⟩, by simp [intOf]; omega⟩
              · have hd4 : decide ((j : Int) < 4) = false := by simp; omega
                have hd4' : decide (j < 4) = false := decide_eq_false h4
                go_wp2_with fail
                exact ⟨⟨i + 1, m, g, cc, t, 0, seen, by omega, by omega, by omega, rfl, by go_num, by go_num, HR2.out, HMF.out⟩, by simp [intOf]; omega⟩
        · have hEf : E = formed ⟨k, yb, yl, yd⟩ ∧ t = zero := by have := HNX.out; rw [nxt_eq _ HRE.out.rt, if_pos hf] at this; injection this with h1 h2; exact ⟨h2.symm, h1.symm⟩
          obtain ⟨hE, rfl⟩ := hEf
          have hE0 : (E != 0) = true := by rw [hE]; simpa using hf
          obtain ⟨z0, z1, z2, z3, z4⟩ := cells5 HB7.out
          have zz := fun ww => zeroS ww
          simp only [zero] at z0 z1 z2 z3 z4
          clear hE hf
          go_wp2_with fail
          exact ⟨⟨i + 1, m, g, cc, s, lt, seen, by omega, by omega, by omega, rfl, rfl, by go_num, HRE.out, HM7.out⟩, by simp [intOf]; omega⟩
    · have hd1 : decide ((i : Int) < (L : Int)) = false := by simp; omega
      have hd1' : decide (i < L) = false := decide_eq_false hin
      have HFX : Hid _ := fixed_any S wr (S.keep HT.out HM.out.chg)
      have HCM : Hid _ := HM.out.chg
      clear HM HRE hin
      go_wp2_with fail
      refine Calls.mono HFX.out ?_
      rintro z w2 ⟨rfl, c2⟩
      have HC2 : Hid (Chg (fun _ => False) w w2) := chg_then HCM.out c2
      clear c2 HFX HCM
      go_wp2
      go_ret
      exact ⟨rfl, HC2.out⟩
end Go.Proofs.YtkochonjfjlhpaaDoor
