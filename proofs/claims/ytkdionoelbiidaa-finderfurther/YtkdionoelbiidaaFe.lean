/- FinderMissed, above what is asked of the program's finders; of no statement by itself. -/
import Derived.Test.YtkdionoelbiidaaFd
namespace Go.Proofs.Ytkdionoelbiidaa
open Go.RowKit
set_option linter.unusedVariables false
variable {Γ : Type} {le : Γ → Γ → Prop} {foot : Γ → Nat → Prop} {mp : Γ → Nat} {Fin : Γ → World → Nat → Nat → List Nat → Nat → Nat → Prop} {Sq : World → Value → (Nat → Prop) → Nat → Int → Prop}

/-- A finder that the call has made. -/
structure One (Fin : Γ → World → Nat → Nat → List Nat → Nat → Nat → Prop) (w0 w : World) (γ : Γ) (a : Nat) (d : List Nat) (n p : Nat) : Prop where
  fin : Fin γ w w0.heap.size a d n p
  chg : Chg (fun _ => False) w0 w
theorem One.new (S : FinSpec le foot mp Fin Sq) {w0 w w' : World} {γ : Γ} {a : Nat} {d : List Nat} {n p : Nat} (h : One Fin w0 w γ a d n p) (hc : Chg (fun _ => False) w w') : One Fin w0 w' γ a d n p := ⟨S.new h.fin hc, chg_then h.chg hc⟩
theorem One.go (S : FinSpec le foot mp Fin Sq) {w0 w w' : World} {γ γ' : Γ} {a : Nat} {d : List Nat} {n p p' : Nat} (h : One Fin w0 w γ a d n p) (hf : Fwd le foot γ γ' w w') (hn : Fin γ' w' w0.heap.size a d n p') : One Fin w0 w' γ' a d n p' := ⟨hn, h.chg.trans hf.chg (fun z f => .inr (S.lt h.fin z f).1)⟩
theorem hit273 {d : List Nat} {dict p t : Nat} (ht : t ≤ dict) : hitAt d dict p t ↔ 3 ≤ runN d p (p - t) 273 := by
  unfold hitAt
  rw [runN_min d p (p - t) (show 3 ≤ 273 by omega)]
  omega
/-- The longest of some distances. -/
def longL (d : List Nat) (p : Nat) (ts : List Nat) : Nat := ts.foldl (fun b t => max b (runN d p (p - t) 273)) 0
theorem longL_snoc (d : List Nat) (p : Nat) (ts : List Nat) (t : Nat) : longL d p (ts ++ [t]) = max (longL d p ts) (runN d p (p - t) 273) := by unfold longL; rw [List.foldl_append]; rfl
theorem mat273 (d : List Nat) (dict p : Nat) : mat d dict p 273 = (cand d dict p).map (fun t => (runN d p (p - t) 273, t)) := by
  unfold mat
  have h : ∀ l : List Nat, (∀ t ∈ l, hitAt d dict p t) → l.filterMap (matAt d p (bnd 273)) = l.map (fun t => (runN d p (p - t) 273, t)) := by
    intro l
    induction l with
    | nil => intro _; rfl
    | cons t l ih =>
      intro hl
      have ht := hl t List.mem_cons_self
      have e : matAt d p (bnd 273) t = some (runN d p (p - t) 273, t) := by
        unfold matAt
        rw [show bnd 273 = 273 from rfl, if_pos ((hit273 ht.1).1 ht)]
      rw [List.filterMap_cons_some e, ih (fun x hx => hl x (List.mem_cons_of_mem _ hx)), List.map_cons]
  exact h _ (fun t ht => (cand_mem ht).2.2)
theorem long_max (d : List Nat) (p : Nat) (ts : List Nat) : maxL (ts.map (fun t => (runN d p (p - t) 273, t))) = longL d p ts := by
  unfold maxL longL
  rw [List.foldl_map]
/-- How many were met, and how long the longest is, when t distances were looked at. -/
def kMany (d : List Nat) (n p t : Nat) : Nat := min 32 (scan d n p t).length
def kLong (d : List Nat) (n p t : Nat) : Nat := longL d p ((scan d n p t).take 32)
theorem k_end {d : List Nat} {n p t : Nat} (ht : t ≤ p) (h : t = p ∨ n ≤ t) : (mat d n p 273).length = kMany d n p t ∧ (bestM (mat d n p 273)).1 = kLong d n p t := by
  have e : cand d n p = (scan d n p t).take 32 := by
    unfold cand
    rcases h with e | e
    · rw [e]
    · have := scan_past d n p t e (p - t)
      rw [show t + (p - t) = p by omega] at this
      rw [this]
  rw [bestM_max, mat273, long_max, List.length_map, e]
  exact ⟨by rw [List.length_take]; rfl, rfl⟩
theorem k_miss {d : List Nat} {n p t : Nat} (h : ¬ hitAt d n p (t + 1)) : kMany d n p (t + 1) = kMany d n p t ∧ kLong d n p (t + 1) = kLong d n p t := by
  unfold kMany kLong
  have : scan d n p (t + 1) = scan d n p t := if_neg h
  rw [this]
  exact ⟨rfl, rfl⟩
theorem k_full {d : List Nat} {n p t : Nat} (h : kMany d n p t = 32) : kMany d n p (t + 1) = kMany d n p t ∧ kLong d n p (t + 1) = kLong d n p t := by
  unfold kMany at h ⊢
  unfold kLong
  by_cases c : hitAt d n p (t + 1)
  · have e : scan d n p (t + 1) = scan d n p t ++ [t + 1] := if_pos c
    rw [e, List.length_append, List.take_append_of_le_length (by omega)]
    exact ⟨by omega, rfl⟩
  · have e : scan d n p (t + 1) = scan d n p t := if_neg c
    rw [e]
    exact ⟨rfl, rfl⟩
theorem k_hit {d : List Nat} {n p t : Nat} (h : hitAt d n p (t + 1)) (hl : kMany d n p t ≠ 32) : kMany d n p (t + 1) = kMany d n p t + 1 ∧ kLong d n p (t + 1) = max (kLong d n p t) (runN d p (p - (t + 1)) 273) := by
  unfold kMany at hl ⊢
  unfold kLong
  have e : scan d n p (t + 1) = scan d n p t ++ [t + 1] := if_pos h
  rw [e, List.length_append, List.length_singleton, List.take_of_length_le (show (scan d n p t).length ≤ 32 by omega), List.take_of_length_le (show (scan d n p t ++ [t + 1]).length ≤ 32 by rw [List.length_append, List.length_singleton]; omega), longL_snoc]
  exact ⟨by omega, rfl⟩
theorem max_int {a b k : Nat} (h : max a b = k) : (if a < b then (b : Int) else (a : Int)) = (k : Int) := by split <;> omega
theorem kLong_le (d : List Nat) (n p t : Nat) : kLong d n p t ≤ 273 := by
  unfold kLong longL
  have h : ∀ (l : List Nat) (b : Nat), b ≤ 273 → l.foldl (fun b t => max b (runN d p (p - t) 273)) b ≤ 273 := by
    intro l
    induction l with
    | nil => exact fun b hb => hb
    | cons t l ih => exact fun b hb => ih _ (by have := runN_le d p (p - t) 273; show max b _ ≤ 273; omega)
  exact h _ 0 (by omega)
theorem field0 (x y : Int) (w : World) : (Instr.field 30 (.agg #[.int .i64 x, .int .i64 y]) 0).run Try.prog w = .ok (.int .i64 x) w := by kernel_rfl
theorem pF_neq (x : Addr) (w : World) : (binOp .neq 23 (.pointer (some x)) (.pointer none)).run Try.prog w = .ok (.bool true) w := by kernel_rfl
set_option maxHeartbeats 8000000 in
set_option maxRecDepth 100000 in
theorem missed_any (S : FinSpec le foot mp Fin Sq) (ad : Option Addr) (L c : Nat) (d : List Nat) (dict : Int) (w0 : World) (hr : Row8 w0 ad L c (nums d)) (hdig : Rc.Dig d) (hLc : L ≤ c) (hL : L ≤ 140737488351232) (hdi : I64 dict) : Calls Try.prog 3 #[.slice ad L c, .int .i64 dict] w0 fun e w' => e = .returned (.bool true) ∧ Chg (fun _ => False) w0 w' := by
  have HR : Hid (Row8 w0 ad L c (nums d)) := hr
  have hdl : d.length = L := by have := hr.1; rw [nums_len] at this; exact this
  have HDL : Hid (d.length = L) := hdl
  have hne := pF_ne
  have hneq := pF_neq
  have hfd0 := field0
  by_cases hout : dict < 1 ∨ 4294967295 < dict
  · have HN : Hid _ := S.newOut ad L c dict w0 hout
    clear hr hdl
    by_cases h1 : dict < 1
    · have hd1 : decide (dict < 1) = true := by simp; omega
      go_enter Try.func3, Try.ntmps3
      go_wp2_with fail
      refine Calls.mono HN.out ?_
      rintro z w1 ⟨rfl, c1⟩
      go_wp2_with fail
      refine (num_any _ _).mono ?_
      rintro z w2 ⟨rfl, rfl⟩
      go_wp2
      go_ret
      exact ⟨rfl, c1⟩
    · have hd1 : decide (dict < 1) = false := by simp; omega
      have hd2 : decide (4294967295 < dict) = true := by simp; omega
      go_enter Try.func3, Try.ntmps3
      go_wp2_with fail
      refine Calls.mono HN.out ?_
      rintro z w1 ⟨rfl, c1⟩
      go_wp2_with fail
      refine (num_any _ _).mono ?_
      rintro z w2 ⟨rfl, rfl⟩
      go_wp2
      go_ret
      exact ⟨rfl, c1⟩
  obtain ⟨n, rfl⟩ : ∃ n : Nat, (n : Int) = dict := ⟨dict.toNat, by omega⟩
  have hd1 : decide ((n : Int) < 1) = false := by simp; omega
  have hd2 : decide (4294967295 < (n : Int)) = false := by simp; omega
  have hnb : (n : Int) ≤ 4294967295 := by omega
  have HN : Hid _ := S.newIn ad L c d n w0 hr hdig hLc (by omega) (by omega) (by omega)
  have HRUN : Hid (∀ (p t : Nat) (w : World), Chg (fun _ => False) w0 w → t ≤ p → p ≤ L → Calls Try.prog 10 #[.slice ad L c, .int .i64 (p : Int), .int .i64 (t : Int), .int .i64 273] w fun e w' => e = .returned (.int .i64 ((runN d p (p - t) 273 : Nat) : Int)) ∧ Chg (fun _ => False) w w') := fun p t w hc ht hp => (run_q ad L c d p t 273 w (Bk.row8_chg hr hc) ht hp (by omega) (by unfold I64; omega)).mono fun e w' ⟨h1, k, h2⟩ => ⟨h1, by rw [h2]; exact chg_drewN _ _⟩
  clear hr hdl hout hdi
  by_cases hbig : 65536 < L
  · have hd3 : decide (65536 < L) = true := decide_eq_true hbig
    have hd3' : decide (65536 < (L : Int)) = true := by simp; omega
    go_enter Try.func3, Try.ntmps3
    go_wp2_with fail
    refine Calls.mono HN.out ?_
    rintro z w1 ⟨γ, a, rfl, hf1, c1⟩
    go_wp2_with fail
    refine (num_any _ _).mono ?_
    rintro z w2 ⟨rfl, rfl⟩
    go_wp2_with fail
    refine (num_any _ _).mono ?_
    rintro z w2 ⟨rfl, rfl⟩
    go_wp2
    go_ret
    exact ⟨rfl, c1⟩
  have hd3 : decide (65536 < L) = false := decide_eq_false hbig
  have hd3' : decide (65536 < (L : Int)) = false := by simp; omega
  have hLi : (L : Int) ≤ 65536 := by omega
  go_enter Try.func3, Try.ntmps3
  go_wp2_with fail
  refine Calls.mono HN.out ?_
  rintro z w1 ⟨γ0, a, rfl, hf1, c1⟩
  have HO1 : Hid (One Fin w0 w1 γ0 a d n 0) := ⟨hf1, c1⟩
  clear hf1 c1 HN
  go_wp2_with fail
  refine (num_any _ _).mono ?_
  rintro z w2 ⟨rfl, rfl⟩
  go_wp2_with fail
  go_loopw [48] (fun v wr => ∃ (p : Nat) (γ : Γ), p ≤ L ∧ v = .int .i64 (p : Int) ∧ Hid (One Fin w0 wr γ a d n p)) (fun v _ => L - (intOf v).toNat)
  case atStart => exact ⟨0, γ0, Nat.zero_le _, rfl, HO1.out⟩
  case round =>
    clear HO1
    obtain ⟨p, γ, hp, rfl, HO⟩ := hrel
    by_cases hlt : p < L
    · have hdp : decide (p < L) = true := decide_eq_true hlt
      have hpi : (p : Int) ≤ 65536 := by omega
      generalize wr = W2 at *
      go_wp2_with fail
      go_loopw [8, 9, 10] (fun lv mv tv wr => ∃ t lg mn : Nat, 1 ≤ t ∧ t ≤ p + 1 ∧ lg ≤ 273 ∧ mn ≤ 32 ∧ lv = .int .i64 (lg : Int) ∧ mv = .int .i64 (mn : Int) ∧ tv = .int .i64 (t : Int) ∧ Hid (kLong d n p (t - 1) = lg ∧ kMany d n p (t - 1) = mn) ∧ Hid (One Fin w0 wr γ a d n p)) (fun _ _ tv _ => p + 1 - (intOf tv).toNat)
      case atStart => exact ⟨1, 0, 0, Nat.le_refl _, by omega, by omega, by omega, rfl, rfl, rfl, ⟨rfl, rfl⟩, HO.out⟩
      case round =>
        clear HO
        obtain ⟨t, lg, mn, ht1, htp, hlg, hmn, rfl, rfl, rfl, HK, HO⟩ := hrel
        have hti : (t : Int) ≤ 65537 := by omega
        have hlgi : (lg : Int) ≤ 273 := by omega
        have hmni : (mn : Int) ≤ 32 := by omega
        by_cases hA : t ≤ p ∧ t ≤ n
        · have hA1 : decide (t ≤ p) = true := decide_eq_true hA.1
          have hA1' : decide ((t : Int) ≤ (p : Int)) = true := by simp; omega
          have hA2 : decide (t ≤ n) = true := decide_eq_true hA.2
          have hA2' : decide ((t : Int) ≤ (n : Int)) = true := by simp; omega
          have HRR : Hid _ := HRUN.out p t wr HO.out.chg hA.1 hp
          have hrle := runN_le d p (p - t) 273
          have HHT : Hid (hitAt d n p t ↔ 3 ≤ runN d p (p - t) 273) := hit273 hA.2
          have HT : Hid (t - 1 + 1 = t) := by show _ = _; omega
          obtain ⟨r, hr⟩ : ∃ r, runN d p (p - t) 273 = r := ⟨_, rfl⟩
          have HRE : Hid (runN d p (p - t) 273 = r) := hr
          rw [hr] at HRR hrle HHT
          have hri : (r : Int) ≤ 273 := by omega
          clear hr
          generalize wr = W3 at *
          go_wp2_with fail
          refine Calls.mono HRR.out ?_
          rintro z w4 ⟨rfl, c4⟩
          have HO4 : Hid (One Fin w0 w4 γ a d n p) := HO.out.new S c4
          clear c4 HRR HO
          by_cases h3 : r < 3
          · have hd4 : decide (r < 3) = true := decide_eq_true h3
            have hd4' : decide ((r : Int) < 3) = true := by simp; omega
            have HK2 : Hid (kLong d n p (t + 1 - 1) = lg ∧ kMany d n p (t + 1 - 1) = mn) := by
              have := k_miss (d := d) (n := n) (p := p) (t := t - 1) (by rw [HT.out]; exact fun f => by have := HHT.out.1 f; omega)
              rw [HT.out] at this
              rw [show t + 1 - 1 = t by omega, this.1, this.2]
              exact HK.out
            clear HK HHT HRE
            go_wp2_with fail
            go_roundw
            case rel => exact ⟨t + 1, lg, mn, by omega, by omega, by omega, by omega, rfl, rfl, by go_num, HK2.out, HO4.out⟩
            case measure => simp [intOf]; omega
          · have hd4 : decide (r < 3) = false := decide_eq_false h3
            have hd4' : decide ((r : Int) < 3) = false := by simp; omega
            by_cases h4 : mn = 32
            · subst h4
              have HK2 : Hid (kLong d n p (t + 1 - 1) = lg ∧ kMany d n p (t + 1 - 1) = 32) := by
                have := k_full (d := d) (n := n) (p := p) (t := t - 1) HK.out.2
                rw [HT.out] at this
                rw [show t + 1 - 1 = t by omega, this.1, this.2]
                exact HK.out
              clear HK HHT HRE
              go_wp2_with fail
              exact ⟨⟨t + 1, lg, 32, by omega, by omega, by omega, by omega, rfl, rfl, by go_num, HK2.out, HO4.out⟩, by simp [intOf]; omega⟩
            · have hd5 : decide (mn = 32) = false := decide_eq_false h4
              have hd5' : ((mn : Int) == 32) = false := by rw [beq_eq_false_iff_ne]; omega
              obtain ⟨k, hk⟩ : ∃ k, max lg r = k := ⟨_, rfl⟩
              have hmx := max_int hk
              have HKX : Hid (max lg r = k) := hk
              have hk2 : k ≤ 273 := by omega
              have hkb : (k : Int) ≤ 273 := by omega
              have HK2 : Hid (kLong d n p (t + 1 - 1) = k ∧ kMany d n p (t + 1 - 1) = mn + 1) := by
                have := k_hit (d := d) (n := n) (p := p) (t := t - 1) (by rw [HT.out]; exact HHT.out.2 (by omega)) (by rw [HK.out.2]; exact h4)
                rw [HT.out, HRE.out, HK.out.1, HK.out.2, hk] at this
                rw [show t + 1 - 1 = t by omega]
                exact ⟨this.2, this.1⟩
              have HM4 : Hid (mn + 1 ≤ 32) := by show _ ≤ _; omega
              clear HK HHT HRE hk h4 h3
              go_wp2_with fail
              exact ⟨⟨t + 1, k, mn + 1, by omega, by omega, hk2, HM4.out, rfl, by go_num, by go_num, HK2.out, HO4.out⟩, by simp [intOf]; omega⟩
        · have HEND : Hid ((mat d n p 273).length = mn ∧ (bestM (mat d n p 273)).1 = lg) := by
            have := k_end (d := d) (n := n) (p := p) (t := t - 1) (by omega) (by omega)
            rw [HK.out.1, HK.out.2] at this
            exact this
          have HB : Hid _ := S.best γ w0.heap.size a d n p 273 wr HO.out.fin (by unfold I64; omega)
          clear HK
          by_cases hA1 : t ≤ p
          · have hA2 : decide (t ≤ n) = false := decide_eq_false (fun f => hA ⟨hA1, f⟩)
            have hA2' : decide ((t : Int) ≤ (n : Int)) = false := by simp; omega
            have hA1' : decide ((t : Int) ≤ (p : Int)) = true := by simp; omega
            have hA1'' : decide (t ≤ p) = true := decide_eq_true hA1
            go_wp2_with fail
            refine Calls.mono HB.out ?_
            rintro z w5 ⟨rfl, c5⟩
            have HO5 : Hid (One Fin w0 w5 γ a d n p) := HO.out.new S c5
            have HAL : Hid _ := all_any S γ w0.heap.size a d n p 273 w5 HO5.out.fin (by unfold I64; omega)
            rw [HEND.out.1] at HAL
            unfold mval
            rw [HEND.out.2]
            obtain ⟨b2, hb2⟩ : ∃ b2, (bestM (mat d n p 273)).2 = b2 := ⟨_, rfl⟩
            rw [hb2]
            clear c5 HB HO hb2
            go_wp2_with fail
            refine Calls.mono HAL.out ?_
            rintro z w6 ⟨v6, rfl, ho6, c6⟩
            obtain ⟨a6, d6, hv6⟩ := formN ho6
            subst hv6
            have HO6 : Hid (One Fin w0 w6 γ a d n p) := HO5.out.new S c6
            clear c6 ho6 HAL HO5
            go_wp2_with fail
            refine (S.skipIn γ w0.heap.size a d n p 1 w6 HO6.out.fin HO6.out.chg.size (by have := HDL.out; omega)).mono ?_
            rintro z w7 ⟨rfl, γ7, hf7, hn7⟩
            have HO7 : Hid (One Fin w0 w7 γ7 a d n (p + 1)) := HO6.out.go S hf7 hn7
            clear hf7 hn7 HO6
            go_wp2_with fail
            refine (num_any _ _).mono ?_
            rintro z w8 ⟨rfl, rfl⟩
            go_wp2_with fail
            go_roundw
            case rel => exact ⟨p + 1, γ7, by omega, by go_num, HO7.out⟩
            case measure => simp [intOf]; omega
          · have hA1' : decide ((t : Int) ≤ (p : Int)) = false := by simp; omega
            have hA1'' : decide (t ≤ p) = false := decide_eq_false hA1
            go_wp2_with fail
            refine Calls.mono HB.out ?_
            rintro z w5 ⟨rfl, c5⟩
            have HO5 : Hid (One Fin w0 w5 γ a d n p) := HO.out.new S c5
            have HAL : Hid _ := all_any S γ w0.heap.size a d n p 273 w5 HO5.out.fin (by unfold I64; omega)
            rw [HEND.out.1] at HAL
            unfold mval
            rw [HEND.out.2]
            obtain ⟨b2, hb2⟩ : ∃ b2, (bestM (mat d n p 273)).2 = b2 := ⟨_, rfl⟩
            rw [hb2]
            clear c5 HB HO hb2
            go_wp2_with fail
            refine Calls.mono HAL.out ?_
            rintro z w6 ⟨v6, rfl, ho6, c6⟩
            obtain ⟨a6, d6, hv6⟩ := formN ho6
            subst hv6
            have HO6 : Hid (One Fin w0 w6 γ a d n p) := HO5.out.new S c6
            clear c6 ho6 HAL HO5
            go_wp2_with fail
            refine (S.skipIn γ w0.heap.size a d n p 1 w6 HO6.out.fin HO6.out.chg.size (by have := HDL.out; omega)).mono ?_
            rintro z w7 ⟨rfl, γ7, hf7, hn7⟩
            have HO7 : Hid (One Fin w0 w7 γ7 a d n (p + 1)) := HO6.out.go S hf7 hn7
            clear hf7 hn7 HO6
            go_wp2_with fail
            refine (num_any _ _).mono ?_
            rintro z w8 ⟨rfl, rfl⟩
            go_wp2_with fail
            go_roundw
            case rel => exact ⟨p + 1, γ7, by omega, by go_num, HO7.out⟩
            case measure => simp [intOf]; omega
    · have hdp : decide (p < L) = false := decide_eq_false hlt
      go_wp2_with fail
      refine (known_any S wr).mono ?_
      rintro z w9 ⟨rfl, c9⟩
      have HC9 : Hid (Chg (fun _ => False) w0 w9) := chg_then HO.out.chg c9
      clear c9
      go_wp2
      go_ret
      exact ⟨rfl, HC9.out⟩
end Go.Proofs.Ytkdionoelbiidaa
