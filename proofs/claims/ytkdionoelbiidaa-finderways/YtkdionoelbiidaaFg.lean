/- FinderFurther, above what is asked of the program's finders; of no statement by itself. -/
import Derived.Test.YtkdionoelbiidaaFe
namespace Go.Proofs.Ytkdionoelbiidaa
open Go.RowKit
set_option linter.unusedVariables false
variable {Γ : Type} {le : Γ → Γ → Prop} {foot : Γ → Nat → Prop} {mp : Γ → Nat} {Fin : Γ → World → Nat → Nat → List Nat → Nat → Nat → Prop} {Sq : World → Value → (Nat → Prop) → Nat → Int → Prop}

theorem scan_more (d : List Nat) (n m p : Nat) : ∀ k, k ≤ n → scan d n p k = scan d (n + m) p k
  | 0, _ => rfl
  | k + 1, h => by
    have ih := scan_more d n m p k (by omega)
    have e : hitAt d n p (k + 1) ↔ hitAt d (n + m) p (k + 1) := by unfold hitAt; omega
    unfold scan
    rw [ih]
    by_cases c : hitAt d n p (k + 1)
    · rw [if_pos c, if_pos (e.1 c)]
    · rw [if_neg c, if_neg (fun f => c (e.2 f))]
theorem scan_wider (d : List Nat) (n m p : Nat) : scan d n p p <+: scan d (n + m) p p := by
  by_cases h : p ≤ n
  · rw [scan_more d n m p p h]; exact List.prefix_refl _
  · have h1 := scan_past d n p n (Nat.le_refl _) (p - n)
    rw [show n + (p - n) = p by omega] at h1
    rw [h1, scan_more d n m p n (Nat.le_refl _)]
    have h2 := scan_prefix d (n + m) p n (p - n)
    rw [show n + (p - n) = p by omega] at h2
    exact h2
theorem take_prefix {α : Type} {a b : List α} (h : a <+: b) (k : Nat) : a.take k <+: b.take k := by
  obtain ⟨r, rfl⟩ := h
  rw [List.take_append]
  exact List.prefix_append _ _
theorem mat_wider (d : List Nat) (n m p : Nat) : mat d n p 273 <+: mat d (n + m) p 273 := by
  rw [mat273, mat273]
  obtain ⟨r, hr⟩ := take_prefix (scan_wider d n m p) 32
  unfold cand
  rw [← hr, List.map_append]
  exact List.prefix_append _ _
theorem foldl_max_le : ∀ (l : List (Nat × Nat)) (b c : Nat), b ≤ c → l.foldl (fun b m => max b m.1) b ≤ l.foldl (fun b m => max b m.1) c
  | [], b, c, h => h
  | m :: l, b, c, h => foldl_max_le l _ _ (by show max b m.1 ≤ max c m.1; omega)
theorem le_foldl_max : ∀ (l : List (Nat × Nat)) (b : Nat), b ≤ l.foldl (fun b m => max b m.1) b
  | [], b => Nat.le_refl _
  | m :: l, b => Nat.le_trans (by show b ≤ max b m.1; omega) (le_foldl_max l _)
theorem maxL_prefix {a b : List (Nat × Nat)} (h : a <+: b) : maxL a ≤ maxL b := by
  obtain ⟨r, rfl⟩ := h
  unfold maxL
  rw [List.foldl_append]
  exact le_foldl_max _ _
theorem best_wider (d : List Nat) (n m p : Nat) : (bestM (mat d n p 273)).1 ≤ (bestM (mat d (n + m) p 273)).1 := by
  rw [bestM_max, bestM_max]
  exact maxL_prefix (mat_wider d n m p)
theorem fold_longer (f g : Nat → Nat) (hfg : ∀ t, f t ≤ g t) : ∀ (l : List Nat) (b c : Nat), b ≤ c → (l.filterMap (fun t => if 3 ≤ f t then some (f t, t) else none)).foldl (fun b m => max b m.1) b ≤ (l.map (fun t => (g t, t))).foldl (fun b m => max b m.1) c
  | [], b, c, h => h
  | t :: l, b, c, h => by
    have ht := hfg t
    rw [List.map_cons, List.foldl_cons]
    by_cases e : 3 ≤ f t
    · rw [List.filterMap_cons_some (f := fun t => if 3 ≤ f t then some (f t, t) else none) (b := (f t, t)) (if_pos e), List.foldl_cons]
      exact fold_longer f g hfg l _ _ (by show max b (f t) ≤ max c (g t); omega)
    · rw [List.filterMap_cons_none (f := fun t => if 3 ≤ f t then some (f t, t) else none) (if_neg e)]
      exact fold_longer f g hfg l _ _ (by show b ≤ max c (g t); omega)
theorem run_longer (d : List Nat) (p q m m' : Nat) (h : m ≤ m') : runN d p q m ≤ runN d p q m' := by
  have := runN_min d p q h
  omega
theorem best_longer (d : List Nat) (n p : Nat) : (bestM (mat d n p 20)).1 ≤ (bestM (mat d n p 273)).1 := by
  rw [bestM_max, bestM_max, mat273]
  unfold mat maxL matAt
  exact fold_longer (fun t => runN d p (p - t) (bnd 20)) (fun t => runN d p (p - t) 273) (fun t => run_longer d p (p - t) (bnd 20) 273 (by decide)) _ 0 0 (Nat.le_refl _)
/-- Two finders beside one another. -/
structure Two (Fin : Γ → World → Nat → Nat → List Nat → Nat → Nat → Prop) (foot : Γ → Nat → Prop) (w0 w : World) (γ δ : Γ) (a b : Nat) (d : List Nat) (n m p q : Nat) : Prop where
  f : Fin γ w w0.heap.size a d n p
  g : Fin δ w w0.heap.size b d m q
  ap : ∀ z, foot γ z → ¬ foot δ z
  chg : Chg (fun _ => False) w0 w
theorem Two.new (S : FinSpec le foot mp Fin Sq) {w0 w w' : World} {γ δ : Γ} {a b : Nat} {d : List Nat} {n m p q : Nat} (h : Two Fin foot w0 w γ δ a b d n m p q) (hc : Chg (fun _ => False) w w') : Two Fin foot w0 w' γ δ a b d n m p q := ⟨S.new h.f hc, S.new h.g hc, h.ap, chg_then h.chg hc⟩
theorem Two.left (S : FinSpec le foot mp Fin Sq) {w0 w w' : World} {γ γ' δ : Γ} {a b : Nat} {d : List Nat} {n m p p' q : Nat} (h : Two Fin foot w0 w γ δ a b d n m p q) (hf : Fwd le foot γ γ' w w') (hn : Fin γ' w' w0.heap.size a d n p') : Two Fin foot w0 w' γ' δ a b d n m p' q :=
  ⟨hn, S.keep h.g hf.chg (fun z f g => h.ap z g f), fun z f g => by
    rcases hf.grow z f with e | e
    · exact h.ap z e g
    · have := (S.lt h.g z g).2; omega, h.chg.trans hf.chg (fun z f => .inr (S.lt h.f z f).1)⟩
theorem Two.swap {w0 w : World} {γ δ : Γ} {a b : Nat} {d : List Nat} {n m p q : Nat} (h : Two Fin foot w0 w γ δ a b d n m p q) : Two Fin foot w0 w δ γ b a d m n q p := ⟨h.g, h.f, fun z f g => h.ap z g f, h.chg⟩
theorem Two.right (S : FinSpec le foot mp Fin Sq) {w0 w w' : World} {γ δ δ' : Γ} {a b : Nat} {d : List Nat} {n m p q q' : Nat} (h : Two Fin foot w0 w γ δ a b d n m p q) (hf : Fwd le foot δ δ' w w') (hn : Fin δ' w' w0.heap.size b d m q') : Two Fin foot w0 w' γ δ' a b d n m p q' := (h.swap.left S hf hn).swap
theorem two_made (S : FinSpec le foot mp Fin Sq) {w0 w1 w2 : World} {γ δ : Γ} {a b : Nat} {d : List Nat} {n m : Nat} (h1 : Fin γ w1 w0.heap.size a d n 0) (c1 : Chg (fun _ => False) w0 w1) (h2 : Fin δ w2 w1.heap.size b d m 0) (c2 : Chg (fun _ => False) w1 w2) : Two Fin foot w0 w2 γ δ a b d n m 0 0 :=
  ⟨S.new h1 c2, S.down h2 c1.size, fun z f g => by have e1 := (S.lt h1 z f).2; have e2 := (S.lt h2 z g).1; omega, chg_then c1 c2⟩
theorem mrow_prefix {w : World} {ad : Option Addr} {a b : List (Nat × Nat)} (h : MRow w ad b) (hp : a <+: b) : MRow w ad a := by
  obtain ⟨r, rfl⟩ := hp
  have := h.take a.length
  rwa [List.take_left] at this
theorem own_capN {w : World} {B size : Nat} {e : TypeId} {ad : Option Addr} {c n : Nat} {xs : List Value} (h : w.ownsRow B e size (.slice ad n c) n xs) : n ≤ c ∧ ((ad = none ∧ c = 0) ∨ ∃ g, ad = some ⟨g, 0, none⟩) := by
  rcases h.2 with ⟨e0, e1⟩ | ⟨g, cap, cur, e0, _, _, hc, _⟩
  · simp only [Value.slice.injEq] at e0
    exact ⟨by omega, .inl ⟨e0.1, e0.2.2⟩⟩
  · simp only [Value.slice.injEq, true_and] at e0
    exact ⟨by omega, .inr ⟨g, e0.1⟩⟩
set_option maxHeartbeats 8000000 in
set_option maxRecDepth 100000 in
theorem further_any (S : FinSpec le foot mp Fin Sq) (ad : Option Addr) (L c : Nat) (d : List Nat) (dict more : Int) (w0 : World) (hr : Row8 w0 ad L c (nums d)) (hdig : Rc.Dig d) (hLc : L ≤ c) (hL : L ≤ 140737488351232) (hdi : I64 dict) (hmo : I64 more) : Calls Try.prog 4 #[.slice ad L c, .int .i64 dict, .int .i64 more] w0 fun e w' => e = .returned (.bool true) ∧ Chg (fun _ => False) w0 w' := by
  have HR : Hid (Row8 w0 ad L c (nums d)) := hr
  have hdl : d.length = L := by have := hr.1; rw [nums_len] at this; exact this
  have HDL : Hid (d.length = L) := hdl
  have hne := pF_ne
  have hfd0 := field0
  have HKN : Hid (∀ w, Calls Try.prog 14 #[] w fun e w' => e = .returned (.bool true) ∧ Chg (fun _ => False) w w') := fun w => known_any S w
  by_cases h1 : dict < 1
  · have hd1 : decide (dict < 1) = true := by simp; omega
    clear hr hdl
    go_enter Try.func4, Try.ntmps4
    go_wp2_with fail
    refine (HKN.out _).mono ?_
    rintro z w1 ⟨rfl, c1⟩
    go_wp2
    go_ret
    exact ⟨rfl, c1⟩
  have hd1 : decide (dict < 1) = false := by simp; omega
  by_cases h2 : more < 0
  · have hd2 : decide (more < 0) = true := by simp; omega
    clear hr hdl
    go_enter Try.func4, Try.ntmps4
    go_wp2_with fail
    refine (HKN.out _).mono ?_
    rintro z w1 ⟨rfl, c1⟩
    go_wp2
    go_ret
    exact ⟨rfl, c1⟩
  have hd2 : decide (more < 0) = false := by simp; omega
  obtain ⟨x, hx⟩ : ∃ x, 4294967295 - dict = x := ⟨_, rfl⟩
  have hxb : IntKind.i64.wrap x = x := by
    have := hdi.2
    simp [IntKind.wrap, IntKind.signed, IntKind.bits]
    omega
  by_cases h3 : x < more
  · have hd3 : decide (x < more) = true := by simp; omega
    clear hr hdl
    go_enter Try.func4, Try.ntmps4
    go_wp2_with fail
    refine (HKN.out _).mono ?_
    rintro z w1 ⟨rfl, c1⟩
    go_wp2
    go_ret
    exact ⟨rfl, c1⟩
  have hd3 : decide (x < more) = false := by simp; omega
  by_cases h4 : 4294967295 < dict
  · omega
  have hd4 : decide (4294967295 < dict) = false := by simp; omega
  obtain ⟨n, rfl⟩ : ∃ n : Nat, (n : Int) = dict := ⟨dict.toNat, by omega⟩
  obtain ⟨m, rfl⟩ : ∃ m : Nat, (m : Int) = more := ⟨more.toNat, by omega⟩
  obtain ⟨nm, hnm⟩ : ∃ nm, n + m = nm := ⟨_, rfl⟩
  have hnmi : (n : Int) + (m : Int) = (nm : Int) := by omega
  have hnmb : (nm : Int) ≤ 4294967295 := by omega
  have HNM : Hid (n + m = nm) := hnm
  have HN : Hid _ := S.newIn ad L c d n w0 hr hdig hLc (by omega) (by omega) (by omega)
  have HN2 : Hid (∀ w, Chg (fun _ => False) w0 w → Calls Try.prog 8 #[.slice ad L c, .int .i64 (nm : Int)] w fun e w' => ∃ γ a, e = .returned (.tuple #[.pointer (some ⟨a, 0, none⟩), .int .i64 0]) ∧ Fin γ w' w.heap.size a d nm 0 ∧ Chg (fun _ => False) w w') := fun w hc => S.newIn ad L c d nm w (Bk.row8_chg hr hc) hdig hLc (by omega) (by omega) (by omega)
  clear hr hdl h1 h2 h3 h4 hdi hmo hnm
  have hLi : (L : Int) ≤ 140737488351232 := by omega
  go_enter Try.func4, Try.ntmps4
  go_wp2_with fail
  refine Calls.mono HN.out ?_
  rintro z w1 ⟨γ0, a, rfl, hf1, c1⟩
  have HF1 : Hid (Fin γ0 w1 w0.heap.size a d n 0 ∧ Chg (fun _ => False) w0 w1) := ⟨hf1, c1⟩
  clear hf1 c1 HN
  go_wp2_with fail
  refine (HN2.out _ HF1.out.2).mono ?_
  rintro z w2 ⟨δ0, b, rfl, hf2, c2⟩
  have HT2 : Hid (Two Fin foot w0 w2 γ0 δ0 a b d n nm 0 0) := two_made S HF1.out.1 HF1.out.2 hf2 c2
  clear hf2 c2 HF1 HN2
  go_wp2_with fail
  refine (num_any _ _).mono ?_
  rintro z w3 ⟨rfl, rfl⟩
  go_wp2_with fail
  refine (num_any _ _).mono ?_
  rintro z w3 ⟨rfl, rfl⟩
  go_wp2_with fail
  go_loopw [62] (fun v wr => ∃ (p : Nat) (γ δ : Γ), p ≤ L ∧ v = .int .i64 (p : Int) ∧ Hid (Two Fin foot w0 wr γ δ a b d n nm p p)) (fun v _ => L - (intOf v).toNat)
  case atStart => exact ⟨0, γ0, δ0, Nat.zero_le _, rfl, HT2.out⟩
  case round =>
    clear HT2
    obtain ⟨p, γ, δ, hp, rfl, HT⟩ := hrel
    by_cases hlt : p < L
    · have hdp : decide (p < L) = true := decide_eq_true hlt
      have HWID : Hid (mat d n p 273 <+: mat d nm p 273) := by rw [← HNM.out]; exact mat_wider d n m p
      have HBW : Hid ((bestM (mat d n p 273)).1 ≤ (bestM (mat d nm p 273)).1) := by rw [← HNM.out]; exact best_wider d n m p
      have HBL : Hid ((bestM (mat d n p 20)).1 ≤ (bestM (mat d n p 273)).1) := best_longer d n p
      have HAX : Hid _ := all_any S γ w0.heap.size a d n p 273 wr HT.out.f (by unfold I64; omega)
      obtain ⟨xs, hxs⟩ : ∃ xs, mat d n p 273 = xs := ⟨_, rfl⟩
      have HXS : Hid (mat d n p 273 = xs) := hxs
      have hxl : xs.length ≤ 32 := by rw [← hxs]; exact mat_len d n p 273
      rw [hxs] at HAX HWID
      clear hxs
      go_wp2_with fail
      refine Calls.mono HAX.out ?_
      rintro z w3 ⟨v3, rfl, ho3, c3⟩
      obtain ⟨a3, d3, hv3⟩ := formN ho3
      subst hv3
      have HT3 : Hid (Two Fin foot w0 w3 γ δ a b d n nm p p) := HT.out.new S c3
      have HX3 : Hid (MRow w3 a3 xs) := mrow_own ho3
      have HAY : Hid _ := all_any S δ w0.heap.size b d nm p 273 w3 HT3.out.g (by unfold I64; omega)
      obtain ⟨ys, hys⟩ : ∃ ys, mat d nm p 273 = ys := ⟨_, rfl⟩
      have HYS : Hid (mat d nm p 273 = ys) := hys
      have hyl : ys.length ≤ 32 := by rw [← hys]; exact mat_len d nm p 273
      rw [hys] at HAY HWID
      clear hys c3 ho3 HAX HT
      go_wp2_with fail
      refine Calls.mono HAY.out ?_
      rintro z w4 ⟨v4, rfl, ho4, c4⟩
      obtain ⟨a4, d4, hv4⟩ := formN ho4
      subst hv4
      have HT4 : Hid (Two Fin foot w0 w4 γ δ a b d n nm p p) := HT3.out.new S c4
      have HX4 : Hid (MRow w4 a3 xs) := HX3.out.new c4
      have HY4 : Hid (MRow w4 a4 xs) := mrow_prefix (mrow_own ho4) HWID.out
      obtain ⟨hcap, hadr⟩ := own_capN ho4
      have hxy : xs.length ≤ ys.length := HWID.out.length_le
      obtain ⟨lx, hlx⟩ : ∃ lx, xs.length = lx := ⟨_, rfl⟩
      obtain ⟨ly, hly⟩ : ∃ ly, ys.length = ly := ⟨_, rfl⟩
      have HLX : Hid (xs.length = lx) := hlx
      rw [hlx] at hxl hxy ⊢
      rw [hly] at hyl hxy hcap ⊢
      have hg1 : decide ((ly : Int) < (lx : Int)) = false := by simp; omega
      have hg1' : decide (ly < lx) = false := by simp; omega
      have hlxi : (lx : Int) ≤ 32 := by omega
      have hlxc : lx ≤ d4 := by omega
      have hlxci : (lx : Int) ≤ (d4 : Int) := by omega
      clear c4 ho4 HAY HT3 HX3 hlx hly HWID
      have HSAME : Hid (∀ w, Chg (fun _ => False) w4 w → Calls Try.prog 15 #[.slice a3 lx d3, .slice a4 lx d4] w fun e w' => e = .returned (.bool true) ∧ Chg (fun _ => False) w w') := fun w hc => (same_q a3 a4 d3 d4 lx xs w (HX4.out.new hc) (HY4.out.new hc) HLX.out (by omega)).mono fun e w' ⟨h1, k, h2⟩ => ⟨h1, by rw [h2]; exact chg_drewN _ _⟩
      go_wp2_with fail
      refine (HSAME.out w4 (Chg.refl _ _)).mono ?_
      rintro z w5 ⟨rfl, c5⟩
      have HT5 : Hid (Two Fin foot w0 w5 γ δ a b d n nm p p) := HT4.out.new S c5
      clear c5 HT4 HSAME
      obtain ⟨x1, hx1⟩ : ∃ x1, bestM (mat d n p 273) = x1 := ⟨_, rfl⟩
      obtain ⟨x2, hx2⟩ : ∃ x2, bestM (mat d nm p 273) = x2 := ⟨_, rfl⟩
      obtain ⟨x3, hx3⟩ : ∃ x3, bestM (mat d n p 20) = x3 := ⟨_, rfl⟩
      have hb1 := HBW.out
      have hb2 := HBL.out
      rw [hx1, hx2] at hb1
      rw [hx3, hx1] at hb2
      have hg2 : decide ((x2.1 : Int) < (x1.1 : Int)) = false := by simp; omega
      have hg2' : decide (x2.1 < x1.1) = false := by simp; omega
      have hg3 : decide ((x1.1 : Int) < (x3.1 : Int)) = false := by simp; omega
      have hg3' : decide (x1.1 < x3.1) = false := by simp; omega
      have HX1 : Hid (bestM (mat d n p 273) = x1) := hx1
      have HX2 : Hid (bestM (mat d nm p 273) = x2) := hx2
      have HX3 : Hid (bestM (mat d n p 20) = x3) := hx3
      clear hx1 hx2 hx3 hb1 hb2 HBW HBL HXS HYS HX4 HY4
      go_wp2_with fail
      refine (S.best γ w0.heap.size a d n p 273 w5 HT5.out.f (by unfold I64; omega)).mono ?_
      rw [HX1.out]
      rintro z w6 ⟨rfl, c⟩
      have HT6 : Hid (Two Fin foot w0 w6 γ δ a b d n nm p p) := HT5.out.new S c
      clear c HT5
      unfold mval
      go_wp2_with fail
      refine (S.best δ w0.heap.size b d nm p 273 w6 HT6.out.g (by unfold I64; omega)).mono ?_
      rw [HX2.out]
      rintro z w7 ⟨rfl, c⟩
      have HT7 : Hid (Two Fin foot w0 w7 γ δ a b d n nm p p) := HT6.out.new S c
      clear c HT6
      unfold mval
      go_wp2_with fail
      refine (S.best γ w0.heap.size a d n p 20 w7 HT7.out.f (by unfold I64; omega)).mono ?_
      rw [HX3.out]
      rintro z w8 ⟨rfl, c⟩
      have HT8 : Hid (Two Fin foot w0 w8 γ δ a b d n nm p p) := HT7.out.new S c
      clear c HT7
      unfold mval
      go_wp2_with fail
      refine (S.best γ w0.heap.size a d n p 273 w8 HT8.out.f (by unfold I64; omega)).mono ?_
      rw [HX1.out]
      rintro z w9 ⟨rfl, c⟩
      have HT9 : Hid (Two Fin foot w0 w9 γ δ a b d n nm p p) := HT8.out.new S c
      clear c HT8
      unfold mval
      go_wp2_with fail
      refine (S.skipIn γ w0.heap.size a d n p 1 w9 HT9.out.f HT9.out.chg.size (by have := HDL.out; omega)).mono ?_
      rintro z w10 ⟨rfl, γ2, hf, hn⟩
      have HT10 : Hid (Two Fin foot w0 w10 γ2 δ a b d n nm (p + 1) p) := HT9.out.left S hf hn
      clear hf hn HT9
      go_wp2_with fail
      refine (num_any _ _).mono ?_
      rintro z w11 ⟨rfl, rfl⟩
      go_wp2_with fail
      refine (S.skipIn δ w0.heap.size b d nm p 1 w10 HT10.out.g HT10.out.chg.size (by have := HDL.out; omega)).mono ?_
      rintro z w11 ⟨rfl, δ2, hf, hn⟩
      have HT11 : Hid (Two Fin foot w0 w11 γ2 δ2 a b d n nm (p + 1) (p + 1)) := HT10.out.right S hf hn
      clear hf hn HT10
      go_wp2_with fail
      refine (num_any _ _).mono ?_
      rintro z w12 ⟨rfl, rfl⟩
      go_wp2_with fail
      go_roundw
      case rel => exact ⟨p + 1, γ2, δ2, by omega, by go_num, HT11.out⟩
      case measure => simp [intOf]; omega
    · have hdp : decide (p < L) = false := decide_eq_false hlt
      have HC : Hid (Chg (fun _ => False) w0 wr) := HT.out.chg
      go_wp2
      go_ret
      exact ⟨rfl, HC.out⟩
end Go.Proofs.Ytkdionoelbiidaa
