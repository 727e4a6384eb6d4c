/- The law's filters and kept; of no statement by themselves. -/
import Derived.Test.YtkncbanodpfccaaDoorBoundG
import Derived.BigQuiet
import Derived.Deep.QuietTactic
namespace Go.Proofs.YtkncbanodpfccaaDoor
open Go.RowKit
open St12
set_option linter.unusedVariables false
set_option linter.unusedSimpArgs false
def FlJ (w0 : World) (la : Option Addr) (i lc : Nat) (q : List FlV) (id : Nat) (y : Int) (xn : Nat) (ps : List Nat) (q9 : Nat) (a b c d : Value) (ww : World) : Prop :=
  Chg (fun _ => False) w0 ww ∧ (q9 ≤ 3 → Fk0 w0.heap.size ww (.slice la i lc) q) ∧ (1 ≤ q9 ∧ q9 ≤ 3 → ∃ oa oc, a = .slice oa xn oc ∧ ByO ww w0.heap.size (.slice oa (xn + 1) oc) (ps ++ [77]) ∧ (2 ≤ q9 → b = .agg #[.int .u64 y, .slice oa xn oc]) ∧ (q9 = 3 → ∃ g, c = .slice (some ⟨g, 0, none⟩) 1 1 ∧ From ww (some ⟨g, 0, none⟩) 1 1 2 (flcs [⟨id, oa, xn, oc, ps⟩]))) ∧ (q9 = 4 → ∃ a2 c2 oa oc, d = .slice a2 (i + 1) c2 ∧ Fk0 w0.heap.size ww (.slice a2 (i + 1) c2) (q ++ [⟨id, oa, xn, oc, ps⟩]))
theorem FlJ.ch {w0 : World} {la : Option Addr} {i lc : Nat} {q : List FlV} {id : Nat} {y : Int} {xn : Nat} {ps : List Nat} {q9 : Nat} {a b c d : Value} {ww : World} (h : FlJ w0 la i lc q id y xn ps q9 a b c d ww) : Chg (fun _ => False) w0 ww := h.1
set_option maxHeartbeats 16000000 in
set_option maxRecDepth 100000 in
theorem filters21_any (ad : Option Addr) (n c : Nat) (l : List FlV) (w0 : World) (hL : FlL w0 ad l) (hl : l.length = n) (hn : n ≤ 1048576) (hx : ∀ (k : Nat) (x : FlV), l[k]? = some x → x.n ≤ 1048576) : Calls Tryd.prog 14 #[.slice ad n c] w0 fun e w' => ∃ ra rc q, e = .returned (.slice ra n rc) ∧ Fk w0.heap.size w' ra n rc q ∧ q.map FlV.f = l.map FlV.f ∧ (∀ (k : Nat) (x : FlV), q[k]? = some x → x.n ≤ 1048576) ∧ Chg (fun _ => False) w0 w' := by
  obtain ⟨jf, hjf, hf0, hf1, hf2⟩ := info_parts infoFl
  have HL : Hid (FlL w0 ad l) := hL
  have HLL : Hid (l.length = n) := hl
  have HXX : Hid (∀ (k : Nat) (x : FlV), l[k]? = some x → x.n ≤ 1048576) := hx
  have hni : (n : Int) ≤ 1048576 := by omega
  have H0 : Hid (Fk0 w0.heap.size w0 (.slice none 0 0) []) := ⟨World.ownsRow_nil _ _ _ _, fun k x e => by simp at e⟩
  clear hL hl hx
  go_enter Tryd.func14, Tryd.ntmps14
  go_wp2_with fail
  go_loopw [3, 4] (fun v t wr => ∃ (i : Nat) (la : Option Addr) (lc : Nat) (q : List FlV), i ≤ n ∧ v = .slice la i lc ∧ t = .int .i64 (i : Int) ∧ Hid (Fk0 w0.heap.size wr (.slice la i lc) q ∧ (q.length = i ∧ q.map FlV.f = (l.take i).map FlV.f ∧ ∀ (k : Nat) (x : FlV), q[k]? = some x → x.n ≤ 1048576) ∧ Chg (fun _ => False) w0 wr)) (fun _ t _ => n - (intOf t).toNat)
  case atStart => exact ⟨0, none, 0, [], by omega, rfl, rfl, H0.out, ⟨rfl, rfl, fun k x e => by simp at e⟩, Chg.refl _ _⟩
  case round =>
    obtain ⟨i, la, lc, q, hi, rfl, rfl, HI⟩ := hrel
    have hii : (i : Int) ≤ 1048576 := by omega
    have HQL : Hid (q.length = i) := HI.out.2.1.1
    by_cases hlt : i < n
    · have d1 : decide ((i : Int) < (n : Int)) = true := decide_eq_true (by omega)
      have d1' : decide (i < n) = true := decide_eq_true hlt
      obtain ⟨x, b, off, hx, hok, rfl, x0, x1⟩ := HL.out.at (k := i) (by rw [HLL.out]; exact hlt)
      have hxn := HXX.out i x hx
      have HX : Hid (l[i]? = some x) := hx
      have hxl := hok.len
      have HXR : Hid (Row8 w0 x.a x.n x.c (nums x.bs)) := hok.row
      have HIX : Hid (x.id < 18446744073709551616 ∧ x.bs.length = x.n ∧ Rc.Dig x.bs ∧ x.n ≤ 140737488351232) := ⟨hok.id, hxl, hok.dig, hok.lim⟩
      obtain ⟨id, xa, xn, xc, ps⟩ := x
      simp only at x0 x1 hxn HXR HIX
      obtain ⟨y, hy⟩ : ∃ y : Int, (id : Int) = y := ⟨_, rfl⟩
      have HY : Hid ((id : Int) = y) := hy
      rw [hy] at x0
      have hxni : (xn : Int) ≤ 1048576 := by omega
      clear hx hok hxl hy
      go_upto_region 5 with fail
      refine wp_region_phaseQ (mk := fun u => #[_, _, _, _, _, _, _, _, _, _, _, u 11, u 12, u 13, u 14, u 15, u 16, u 17, u 18, u 19, u 20, u 21, u 22, u 23, u 24, u 25, _, _, _, _, _, _, _, _]) (G := lookG [(11, .slice la i lc), (12, .slice (some ⟨b, off, none⟩) n c), (13, .int .i64 (i : Int)), (14, .pointer (some ⟨b, off + i * 2, none⟩)), (15, .pointer (some ⟨b, off + i * 2, none⟩)), (16, .int .u64 y), (17, .slice (some ⟨b, off, none⟩) n c), (18, .int .i64 (i : Int)), (19, .pointer (some ⟨b, off + i * 2, none⟩)), (20, .pointer (some ⟨b, off + i * 2 + 1, none⟩)), (21, .slice xa xn xc)]) (J := fun q9 u ww => FlJ w0 la i lc q id y xn ps q9 (u 22) (u 23) (u 24) (u 25) ww) [11, 12, 13, 14] (fun i =>  4) ([]) (fun slot => match slot with | 11 => u11 | 12 => u12 | 13 => u13 | 14 => u14 | 15 => u15 | 16 => u16 | 17 => u17 | 18 => u18 | 19 => u19 | 20 => u20 | 21 => u21 | 22 => u22 | 23 => u23 | 24 => u24 | 25 => u25 | _ => undef) rfl (by kernel_rfl) 15 _ rfl rfl (by kernel_rfl) (by kernel_rfl) (by kernel_rfl) (by decide) ?_ ?_ ?_ (by kernel_rfl) ?_ ?_
      · repeat (refine ⟨fun _ _ => rfl, ?_⟩)
        exact trivial
      · intro q9 u u2 ww h hj
        have e22 : u 22 = u2 22 := h 11 (by decide)
        have e23 : u 23 = u2 23 := h 12 (by decide)
        have e24 : u 24 = u2 24 := h 13 (by decide)
        have e25 : u 25 = u2 25 := h 14 (by decide)
        show FlJ _ _ _ _ _ _ _ _ _ _ _ _ _ _ _
        rw [← e22, ← e23, ← e24, ← e25]
        exact hj
      · exact ⟨chg_then HI.out.2.2 (Chg.refl _ _).drew, fun _ => HI.out.1.new (Chg.refl _ _).drew, fun e => absurd e.1 (by omega), fun e => absurd e (by omega)⟩
      · refine ⟨?_, ?_, ?_, ?_, ?_, ?_, ?_, ?_, ?_, ?_, ?_, ?_, ?_, ?_, ?_, trivial⟩
        · show StepRQ _ _ _ _ _ _ _ _ _ -- 11
          unfold StepRQ
          intro qn hq u w_ hj hd K hK
          clear hd
          clear hj
          go_simp
          exact hK.out _ rfl
        · show StepRQ _ _ _ _ _ _ _ _ _ -- 12
          unfold StepRQ
          intro qn hq u w_ hj hd K hK
          clear hd
          clear hj
          go_simp
          exact hK.out _ rfl
        · show StepRQ _ _ _ _ _ _ _ _ _ -- 13
          unfold StepRQ
          intro qn hq u w_ hj hd K hK
          clear hd
          clear hj
          go_simp
          exact hK.out _ rfl
        · show StepRQ _ _ _ _ _ _ _ _ _ -- 14
          unfold StepRQ
          intro qn hq u w_ hj hd K hK
          have h12 : u 12 = .slice (some ⟨b, off, none⟩) n c := hd.get 1 (by kernel_rfl)
          have h13 : u 13 = .int .i64 (i : Int) := hd.get 2 (by kernel_rfl)
          clear hd
          simp only [h12, h13] at hK
          clear hj
          go_simp
          exact hK.out _ rfl
        · show StepRQ _ _ _ _ _ _ _ _ _ -- 15
          unfold StepRQ
          intro qn hq u w_ hj hd K hK
          have h14 : u 14 = .pointer (some ⟨b, off + i * 2, none⟩) := hd.get 3 (by kernel_rfl)
          clear hd
          simp only [h14] at hK
          clear hj
          go_simp
          exact hK.out _ rfl
        · show StepRQ _ _ _ _ _ _ _ _ _ -- 16
          unfold StepRQ
          intro qn hq u w_ hj hd K hK
          have h15 : u 15 = .pointer (some ⟨b, off + i * 2, none⟩) := hd.get 4 (by kernel_rfl)
          clear hd
          simp only [h15] at hK
          have k0 := cell_chg x0 (FlJ.ch hj)
          clear hj
          go_simp
          exact hK.out _ rfl
        · show StepRQ _ _ _ _ _ _ _ _ _ -- 17
          unfold StepRQ
          intro qn hq u w_ hj hd K hK
          clear hd
          clear hj
          go_simp
          exact hK.out _ rfl
        · show StepRQ _ _ _ _ _ _ _ _ _ -- 18
          unfold StepRQ
          intro qn hq u w_ hj hd K hK
          clear hd
          clear hj
          go_simp
          exact hK.out _ rfl
        · show StepRQ _ _ _ _ _ _ _ _ _ -- 19
          unfold StepRQ
          intro qn hq u w_ hj hd K hK
          have h17 : u 17 = .slice (some ⟨b, off, none⟩) n c := hd.get 6 (by kernel_rfl)
          have h18 : u 18 = .int .i64 (i : Int) := hd.get 7 (by kernel_rfl)
          clear hd
          simp only [h17, h18] at hK
          clear hj
          go_simp
          exact hK.out _ rfl
        · show StepRQ _ _ _ _ _ _ _ _ _ -- 20
          unfold StepRQ
          intro qn hq u w_ hj hd K hK
          have h19 : u 19 = .pointer (some ⟨b, off + i * 2, none⟩) := hd.get 8 (by kernel_rfl)
          clear hd
          simp only [h19] at hK
          clear hj
          go_simp
          exact hK.out _ rfl
        · show StepRQ _ _ _ _ _ _ _ _ _ -- 21
          unfold StepRQ
          intro qn hq u w_ hj hd K hK
          have h20 : u 20 = .pointer (some ⟨b, off + i * 2 + 1, none⟩) := hd.get 9 (by kernel_rfl)
          clear hd
          simp only [h20] at hK
          have k1 := cell_chg x1 (FlJ.ch hj)
          clear hj
          go_simp
          exact hK.out _ rfl
        · show StepWQ _ _ _ _ _ _ _ _ _ -- 22
          unfold StepWQ
          intro u w_ hj hd K hK
          have h21 : u 21 = .slice xa xn xc := hd.get 10 (by kernel_rfl)
          clear hd
          simp only [h21] at hK
          have HJ : Hid _ := hj
          clear hj
          go_simp
          refine Calls.mono (room21_any xa xn xc ps w_ (Bk.row8_chg HXR.out HJ.out.1) (by omega)) ?_
          rintro z w2 ⟨oa, oc, rfl, ho, c2⟩
          exact hK.out _ w2 ⟨chg_then HJ.out.1 c2, fun _ => (HJ.out.2.1 (by omega)).new c2, fun _ => ⟨oa, oc, rfl, owns_base ho HJ.out.1.size, fun e => absurd e (by omega), fun e => absurd e (by omega)⟩, fun e => absurd e (by omega)⟩ trivial
        · show StepWQ _ _ _ _ _ _ _ _ _ -- 23
          unfold StepWQ
          intro u w_ hj hd K hK
          have h16 : u 16 = .int .u64 y := hd.get 5 (by kernel_rfl)
          clear hd
          simp only [h16] at hK
          obtain ⟨oa, oc, e22, ho, _, _⟩ := hj.2.2.1 ⟨by omega, by omega⟩
          have HJ : Hid _ := hj
          have HO : Hid _ := ho
          have HE : Hid _ := e22
          clear hj ho
          simp only [e22] at hK ⊢
          go_simp
          exact hK.out _ w_ ⟨HJ.out.1, fun _ => HJ.out.2.1 (by omega), fun _ => ⟨oa, oc, HE.out, HO.out, fun _ => rfl, fun e => absurd e (by omega)⟩, fun e => absurd e (by omega)⟩ trivial
        · show StepWQ _ _ _ _ _ _ _ _ _ -- 24
          unfold StepWQ
          intro u w_ hj hd K hK
          clear hd
          obtain ⟨oa, oc, e22, ho, e23, _⟩ := hj.2.2.1 ⟨by omega, by omega⟩
          have e23 := e23 (by omega)
          have HJ : Hid _ := hj
          have HO : Hid (ByO w_ w0.heap.size (.slice oa (xn + 1) oc) (ps ++ [77])) := ho
          have HE : Hid _ := e22
          clear hj ho e22
          simp only [e23] at hK ⊢
          have c1 := chg_one w_ (.cells #[.int .u64 y, .slice oa xn oc] 54)
          have hfr := from_fl w_ ⟨id, oa, xn, oc, ps⟩ 54
          rw [show FlV.id ⟨id, oa, xn, oc, ps⟩ = id from rfl, HY.out] at hfr
          have HC1 : Hid _ := c1
          have HFR : Hid _ := hfr
          clear c1 hfr
          go_simp
          exact hK.out _ _ ⟨chg_then HJ.out.1 HC1.out, fun _ => (HJ.out.2.1 (by omega)).new HC1.out, fun _ => ⟨oa, oc, HE.out, ByO.new HO.out HC1.out, fun _ => e23, fun _ => ⟨_, rfl, HFR.out⟩⟩, fun e => absurd e (by omega)⟩ trivial
        · show StepWQ _ _ _ _ _ _ _ _ _ -- 25
          unfold StepWQ
          intro u w_ hj hd K hK
          have h11 : u 11 = .slice la i lc := hd.get 0 (by kernel_rfl)
          clear hd
          obtain ⟨hc, hl, hm, _⟩ := hj
          obtain ⟨oa, oc, e22, ho, e23, e24⟩ := hm ⟨by omega, by omega⟩
          obtain ⟨g, e24, hfr⟩ := e24 (by omega)
          have hl := hl (by omega)
          have hll := hl.lst
          unfold FlO at hll
          rw [HQL.out] at hll
          refine step_append_moved (a := ⟨_, []⟩) (by rfl) (.tmp 11) (.tmp 24) 22 (by rfl) w0.heap.size 54 jf (.agg #[.int .u64 0, .slice none 0 0]) 2 32 Tryd.underlying22 hjf hf0 hf1 hf2 rfl (by decide) (.slice la i lc) i (flcs q) (by exact h11) (some ⟨g, 0, none⟩) 1 1 (by exact e24) (flcs [⟨id, oa, xn, oc, ps⟩]) hll hfr (flcs_cell _) (by unfold maxLen; omega) (by omega) hc.size ?_
          intro v2 w2 ho2 hg hmv
          have c2 : Chg (fun _ => False) w0 w2 := hc.grown hg (fun j e => .inr (hll.lt j e).1)
          obtain ⟨a9, d9, hv9⟩ := formF ho2
          subst hv9
          have hmk : FlV.mark ⟨id, oa, xn, oc, ps⟩ w0.heap.size w_ := ⟨ho, HIX.out.1, HIX.out.2.1, HIX.out.2.2.1, HIX.out.2.2.2⟩
          have hp := Fk0.push hl hmk (by rw [HQL.out]) ho2 hg
          exact hK.out _ w2 ⟨c2, fun e => absurd e (by omega), fun e => absurd e (by omega), fun _ => ⟨a9, d9, oa, oc, rfl, hp⟩⟩ trivial
      · intro u w7 hj hA K hK
        obtain ⟨hc7, _, _, h4⟩ := hj
        obtain ⟨a2, c2, oa, oc, e25, hf7⟩ := h4 rfl
        have HF7 : Hid (Fk0 w0.heap.size w7 (.slice a2 (i + 1) c2) (q ++ [⟨id, oa, xn, oc, ps⟩]) ∧ ((q ++ [(⟨id, oa, xn, oc, ps⟩ : FlV)]).length = i + 1 ∧ (q ++ [(⟨id, oa, xn, oc, ps⟩ : FlV)]).map FlV.f = (l.take (i + 1)).map FlV.f ∧ ∀ (k : Nat) (x : FlV), (q ++ [⟨id, oa, xn, oc, ps⟩])[k]? = some x → x.n ≤ 1048576) ∧ Chg (fun _ => False) w0 w7) := by
          refine ⟨hf7, ⟨by rw [List.length_append, HQL.out]; rfl, map_take_snoc HI.out.2.1.2.1 HX.out rfl, fun k x e => ?_⟩, hc7⟩
          by_cases hk : k < q.length
          · rw [List.getElem?_append_left hk] at e
            exact HI.out.2.1.2.2 k x e
          · have h1 := (List.getElem?_eq_some_iff.1 e).1
            simp at h1
            obtain rfl : k = q.length := by omega
            simp at e
            subst e
            exact hxn
        clear hA hc7 h4 hf7
        simp only [e25] at hK ⊢
        go_simp
        refine hK.out _ _ ?_
        go_wp2
        go_roundw
        case rel => exact ⟨i + 1, a2, c2, _, by omega, rfl, by go_num, HF7.out⟩
        case measure => simp [intOf]; omega
    · have d1 : decide ((i : Int) < (n : Int)) = false := decide_eq_false (by omega)
      have d1' : decide (i < n) = false := decide_eq_false hlt
      obtain rfl : i = n := by omega
      have cZ := chg_one wr (.cells #[.int .u64 99, .slice none 0 0] 54)
      have h0 := HI.out.1.new cZ
      have hll := h0.lst
      unfold FlO at hll
      rw [HQL.out] at hll
      have hfr := from_fl wr end99 54
      have HC0 : Hid (Chg (fun _ => False) w0 (wr.alloc (.cells #[.int .u64 99, .slice none 0 0] 54))) := chg_then HI.out.2.2 cZ
      have H00 : Hid _ := h0
      have hone := flcs_cell [end99]
      have hBs : w0.heap.size ≤ (wr.alloc (.cells #[.int .u64 99, .slice none 0 0] 54)).heap.size := HC0.out.size
      clear cZ h0 hlt
      go_wp2_with (at_builtin; refine wpList_append_moved rfl _ _ 22 rfl w0.heap.size 54 jf (.agg #[.int .u64 0, .slice none 0 0]) 2 32 Tryd.underlying22 hjf hf0 hf1 hf2 rfl (by decide) _ i (flcs q) rfl (some ⟨wr.heap.size, 0, none⟩) 1 1 rfl (flcs [end99]) ?k1 ?l1 ?m1 ?n1 ?o1 ?p1 ?_)
      case k1 => exact hll
      case l1 => exact hfr
      case m1 => exact hone
      case n1 => unfold maxLen; omega
      case o1 => omega
      case p1 => exact hBs
      intro v9 w9 ho9 hg9 hm9
      have hc9 : Chg (fun _ => False) w0 w9 := HC0.out.grown hg9 (fun g e => .inr (hll.lt g e).1)
      obtain ⟨a9, c9, hv9⟩ := formF ho9
      subst hv9
      have HF9 : Hid (Fk w0.heap.size w9 a9 i c9 q) := H00.out.fin HQL.out ho9 hg9
      have HC9 : Hid _ := hc9
      have hcap : i + 1 ≤ c9 := by obtain ⟨_, _, h, _⟩ := HF9.out.at; exact h
      have hcut : ∀ ww, (Instr.sliceAt 22 (.slice a9 (i + 1) c9) none (some (.int .i64 (i : Int))) none).run Tryd.prog ww = .ok (.slice a9 i c9) ww := fun ww => run_cutZ_hi undFl elemFl sizeFl _ (i + 1) c9 i ww (by omega)
      clear ho9 hg9 hm9 hc9 hll hfr hone hBs
      go_wp2
      go_ret
      exact ⟨a9, c9, q, rfl, HF9.out, by rw [HI.out.2.1.2.1, List.take_of_length_le (by rw [HLL.out]; exact Nat.le_refl _)], HI.out.2.1.2.2, HC9.out⟩
set_option maxHeartbeats 16000000 in
set_option maxRecDepth 100000 in
theorem kept21_any (B : Nat) (ra : Option Addr) (rc : Nat) (q : List FlV) (ad : Option Addr) (n c : Nat) (l : List FlV) (w0 : World) (hK : Fk B w0 ra n rc q) (hL : FlL w0 ad l) (hl : l.length = n) (hn : n ≤ 1048576) (hx : ∀ (k : Nat) (x : FlV), l[k]? = some x → x.n ≤ 1048576) (hq : q.map FlV.f = l.map FlV.f) : Calls Tryd.prog 16 #[.slice ra n rc, .slice ad n c] w0 fun e w' => e = .returned (.bool true) ∧ Chg (fun _ => False) w0 w' := by
  have HK0 : Hid (Fk B w0 ra n rc q) := hK
  have HL : Hid (FlL w0 ad l) := hL
  have HLL : Hid (l.length = n) := hl
  have HXX : Hid (∀ (k : Nat) (x : FlV), l[k]? = some x → x.n ≤ 1048576) := hx
  have HQ : Hid (q.map FlV.f = l.map FlV.f) := hq
  have hni : (n : Int) ≤ 1048576 := by omega
  obtain ⟨g, rfl, z0, z1⟩ := hK.last
  have hcap : n + 1 ≤ rc := by obtain ⟨_, _, h, _⟩ := hK.at; exact h
  have HFL : Hid (FlL w0 (some ⟨g, 0, none⟩) q) := hK.L
  have HZ : Hid (w0.cell? ⟨g, n * 2, none⟩ = some (.int .u64 99) ∧ w0.cell? ⟨g, n * 2 + 1, none⟩ = some (.slice none 0 0)) := ⟨z0, z1⟩
  have hcut : ∀ ww, (Instr.sliceAt 22 (.slice (some ⟨g, 0, none⟩) n rc) none (some (.int .i64 ((n : Int) + 1))) none).run Tryd.prog ww = .ok (.slice (some ⟨g, 0, none⟩) (n + 1) rc) ww := fun ww => run_cutZ_hi undFl elemFl sizeFl (some ⟨g, 0, none⟩) n rc (n + 1) ww hcap
  clear hK hL hl hx hq z0 z1
  go_enter Tryd.func16, Tryd.ntmps16
  go_wp2_with fail
  clear hcut
  go_loopw [6] (fun t wr => ∃ i : Nat, i ≤ n ∧ t = .int .i64 (i : Int) ∧ Hid (Chg (fun _ => False) w0 wr)) (fun t _ => n - (intOf t).toNat)
  case atStart => exact ⟨0, by omega, rfl, Chg.refl _ _⟩
  case round =>
    obtain ⟨i, hi, rfl, HC⟩ := hrel
    have hii : (i : Int) ≤ 1048576 := by omega
    by_cases hlt : i < n
    · have d1 : decide ((i : Int) < (n : Int)) = true := decide_eq_true (by omega)
      have d1' : decide (i < n) = true := decide_eq_true hlt
      obtain ⟨x, b, off, hx, hok, rfl, x0, x1⟩ := HL.out.at (k := i) (by rw [HLL.out]; exact hlt)
      obtain ⟨yv, hy, hid, hbs⟩ := map_f_at3 HQ.out hx
      obtain ⟨hyo, b', off', e', y0, y1⟩ := HFL.out i yv hy
      simp only [Option.some.injEq, Addr.mk.injEq, and_true] at e'
      obtain ⟨rfl, rfl⟩ := e'
      rw [Nat.zero_add] at y0 y1
      have hmk := HK0.out.pcs i yv hy
      have hlx := hok.len
      have hly := hyo.len
      have hxn := HXX.out i x hx
      obtain ⟨id, xa, xn, xc, ps⟩ := x
      obtain ⟨id2, ya, yn, yc, ps2⟩ := yv
      simp only at hid hbs x0 x1 y0 y1 hlx hly hxn
      subst hid hbs
      have hyn : yn = xn := by omega
      subst hyn
      have HH : Hid (∀ k, Calls Tryd.prog 19 #[.slice ya yn yc, .slice xa yn xc] (wr.drewN k) fun e w' => e = .returned (.bool true) ∧ ∃ m, w' = (wr.drewN k).drewN m) := fun k => held21_q B ya xa yn yc xc ps2 _ (ByO.new hmk.own (chg_then HC.out (chg_drewN _ _))) (Bk.row8_chg hok.row (chg_then HC.out (chg_drewN _ _))) (by omega)
      obtain ⟨z, hz⟩ : ∃ z : Int, (id2 : Int) = z := ⟨_, rfl⟩
      rw [hz] at x0 y0
      have x0 := cell_chg x0 HC.out
      have x1 := cell_chg x1 HC.out
      have y0 := cell_chg y0 HC.out
      have y1 := cell_chg y1 HC.out
      have e1 : (z != z) = false := by simp
      have e2 : ((yn : Int) != (yn : Int)) = false := by simp
      have HX0 : Hid _ := x0
      have HX1 : Hid _ := x1
      have HY0 : Hid _ := y0
      have HY1 : Hid _ := y1
      have hyni : (yn : Int) ≤ 1048576 := by omega
      clear hx hok hy hyo hmk hlx hly hz x0 x1 y0 y1
      go_upto_region 5 with fail
      have x0 := HX0.out
      have x1 := HX1.out
      have y0 := HY0.out
      have y1 := HY1.out
      go_quiet (first | (go_at_call 19; exact Calls.quiet_of (HH.out _)))
      go_wp2
      go_roundw
      case rel => exact ⟨i + 1, by omega, by go_num, chg_then HC.out (chg_drewN _ _)⟩
      case measure => simp [intOf]; omega
    · have d1 : decide ((i : Int) < (n : Int)) = false := decide_eq_false (by omega)
      have d1' : decide (i < n) = false := decide_eq_false hlt
      obtain rfl : i = n := by omega
      have z0 := cell_chg HZ.out.1 HC.out
      have z1 := cell_chg HZ.out.2 HC.out
      go_wp2
      go_ret
      exact ⟨rfl, HC.out⟩
end Go.Proofs.YtkncbanodpfccaaDoor
