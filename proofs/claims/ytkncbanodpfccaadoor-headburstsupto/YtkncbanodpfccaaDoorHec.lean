/- What is found in the bytes that come, asked byte by byte; of no statement by itself. -/
import Derived.Test.YtkncbanodpfccaaDoorHeb
import Derived.Test.YtkncbanodpfccaaDoorHds
namespace Go.Proofs.YtkncbanodpfccaaDoor
open Go.RowKit
open St12
set_option linter.unusedVariables false
set_option linter.unusedSimpArgs false
theorem rd_tab {B : Nat} {w : World} {a g off : Nat} {xs : List Int} (h : Wire.Rd B w a g xs off) (hT : Vint.Tab w) : a ≠ 0 := fun e => by
  have h1 := hT 0 (by omega)
  have h2 := cell0 h.blk
  rw [e, h1] at h2
  simp at h2
theorem own_take {w : World} {B k : Nat} {v : Value} {bs : List Nat} (h : ByO w B v (bs.take k)) (hk : k ≤ bs.length) : w.ownsRow B 5 1 v k ((nums (bs.take k)).map (Value.int .u8)) := by
  have h1 := h
  unfold ByO at h1
  rw [List.length_take, Nat.min_eq_left hk] at h1
  exact h1
/-- What lacks bytes is no matter of more bytes. -/
def rtE (e : Int) : Int := if e = 1 then 2 else e
theorem take_next (bs : List Nat) {k : Nat} (hk : k < bs.length) : bs.take k ++ [bs.getD k 0] = bs.take (k + 1) := by
  rw [List.take_add_one, List.getElem?_eq_getElem hk]
  simp [List.getD_eq_getElem?_getD, List.getElem?_eq_getElem hk]
theorem numsR_at {rs bs : List Nat} {off k : Nat} (h : rs.drop off = bs) : (nums rs).getD (off + k) 0 = ((bs.getD k 0 : Nat) : Int) := by
  subst h
  simp only [nums, List.getD_eq_getElem?_getD, List.getElem?_map, List.getElem?_drop]
  cases rs[off + k]? <;> rfl
theorem dig_at {bs : List Nat} (h : Rc.Dig bs) (k : Nat) : bs.getD k 0 < 256 := by
  rw [List.getD_eq_getElem?_getD]
  cases e : bs[k]? with
  | none => simp
  | some x => exact h x (List.mem_of_getElem? e)
theorem cells2f {w : World} {a : Nat} {x y : Value} {t : TypeId} (h : w.heap[a]? = some (.cells #[x, y] t (0, 0))) : w.cell? ⟨a, 0, none⟩ = some x ∧ w.cell? ⟨a, 1, none⟩ = some y ∧ w.frozen? ⟨a, 0, none⟩ = false ∧ w.frozen? ⟨a, 1, none⟩ = false :=
  ⟨by simp [World.cell?, h], by simp [World.cell?, h], by simp [World.frozen?, h], by simp [World.frozen?, h]⟩
set_option maxHeartbeats 16000000 in
set_option maxRecDepth 100000 in
theorem wholeN_any (B a g off : Nat) (rs : List Nat) (w0 : World) (h : Wire.Rd B w0 a g (nums rs) off) (hd : Rc.Dig rs) : Calls Tryd.prog 67 #[rmv a, .func (.func 68) #[] #[]] w0 fun e w' => (((getN (rs.drop off)).2.2 = 0 ∧ e = .returned (.int .u64 ((getN (rs.drop off)).1 : Int)) ∧ Wire.Rd B w' a g (nums rs) (off + (getN (rs.drop off)).2.1)) ∨ ((getN (rs.drop off)).2.2 ≠ 0 ∧ e = .panicked (gaveH 2))) ∧ Chg (fun z => z = a) w0 w' := by
  obtain ⟨iu, hiu, hu0, hu1, hu2⟩ := info_parts info5u
  have hcf : ∀ args w, (callFunc 68 args).run Tryd.prog w = .ok (.enter 68 args) w := fun _ _ => rfl
  have cA := chg_one w0 (.cells #[.pointer (some ⟨a, 0, none⟩)] 63)
  have bA := heap_alloc_last w0 (.cells #[.pointer (some ⟨a, 0, none⟩)] 63)
  obtain ⟨bs, hbs⟩ : ∃ bs, rs.drop off = bs := ⟨_, rfl⟩
  have HBS : Hid (rs.drop off = bs) := hbs
  have HLN : Hid (bs.length + off = rs.length ∧ rs.length ≤ 140737488355328) := ⟨by have := h.le; rw [nums_len] at this; rw [← hbs, List.length_drop]; omega, by have := h.len; rwa [nums_len] at this⟩
  have HD : Hid (Rc.Dig bs) := by show Rc.Dig _; rw [← hbs]; exact dig_drop hd off
  have HG : Hid (a < w0.heap.size ∧ g < w0.heap.size) := h.lt
  have HST : Hid (Wire.Rd B (w0.alloc (.cells #[.pointer (some ⟨a, 0, none⟩)] 63)) a g (nums rs) off ∧ (w0.alloc (.cells #[.pointer (some ⟨a, 0, none⟩)] 63)).heap[w0.heap.size]? = some (.cells #[.pointer (some ⟨a, 0, none⟩)] 63 (0, 0)) ∧ Chg (fun z => z = a) w0 (w0.alloc (.cells #[.pointer (some ⟨a, 0, none⟩)] 63)) ∧ w0.heap.size + 1 ≤ (w0.alloc (.cells #[.pointer (some ⟨a, 0, none⟩)] 63)).heap.size) := ⟨rd_alloc h _, bA, (cA).mono (fun _ f => f.elim), by rw [World.size_alloc]; exact Nat.le_refl _⟩
  rw [hbs]
  have hx9 : (w0.alloc (.cells #[.pointer (some ⟨a, 0, none⟩)] 63)).cell? ⟨w0.heap.size, 0, none⟩ = some (.pointer (some ⟨a, 0, none⟩)) := cell00 bA
  unfold rmv
  clear h hd hbs cA bA
  go_enter Tryd.func67, Tryd.ntmps67
  go_upto_region 1 with fail
  generalize w0.alloc (.cells #[.pointer (some ⟨a, 0, none⟩)] 63) = w1 at *
  clear hx9
  obtain ⟨N, hN⟩ : ∃ N, w0.heap.size = N := ⟨_, rfl⟩
  rw [hN] at HST HG
  try rw [hN]
  have HN : Hid (w0.heap.size = N) := hN
  clear hN
  go_wp2_with fail
  go_loopw [5] (fun t wr => ∃ (k : Nat) (ad : Option Addr) (c : Nat), k ≤ bs.length ∧ t = .slice ad k c ∧ Hid (ByO wr (N + 1) (.slice ad k c) (bs.take k) ∧ Wire.Rd B wr a g (nums rs) (off + k) ∧ wr.heap[N]? = some (.cells #[.pointer (some ⟨a, 0, none⟩)] 63 (0, 0)) ∧ Chg (fun z => z = a) w0 wr ∧ N + 1 ≤ wr.heap.size ∧ (getN (bs.take k)).2.2 = 1)) (fun t _ => bs.length - lenV t)
  case atStart => exact ⟨0, none, 0, Nat.zero_le _, rfl, by rw [List.take_zero]; exact byO_nil _ _, HST.out.1, HST.out.2.1, HST.out.2.2.1, HST.out.2.2.2, by rw [List.take_zero]; exact getN_nil⟩
  case round =>
    obtain ⟨k, ad, c, hk, rfl, HI⟩ := hrel
    have hx0 : wr.cell? ⟨N, 0, none⟩ = some (.pointer (some ⟨a, 0, none⟩)) := cell00 HI.out.2.2.1
    by_cases hkn : k < bs.length
    rotate_left
    · obtain rfl : k = bs.length := by omega
      have HX : Hid _ := next21_end B a g (off + bs.length) (nums rs) wr HI.out.2.1 (by rw [nums_len]; have := HLN.out; omega)
      have HE : Hid ((getN bs).2.2 = 1) := by have := HI.out.2.2.2.2.2; rwa [List.take_length] at this
      have HC9 : Hid (Chg (fun z => z = a) w0 wr) := HI.out.2.2.2.1
      unfold rmv at HX
      clear hkn hk HI
      go_wp2_with fail
      refine Calls.mono HX.out ?_
      rintro z w2 ⟨rfl, hc⟩
      exact ⟨rfl, .inr ⟨by rw [HE.out]; decide, rfl⟩, HC9.out.trans hc (fun _ e => .inl e)⟩
    · have hxb := dig_at HD.out k
      have hat := numsR_at (k := k) HBS.out
      obtain ⟨x, hx⟩ : ∃ x, bs.getD k 0 = x := ⟨_, rfl⟩
      rw [hx] at hxb hat
      have HXB : Hid (bs.getD k 0 = x) := hx
      have hxi : (x : Int) ≤ 255 := by omega
      have hx00 : 0 ≤ (x : Int) := Int.natCast_nonneg x
      have HX : Hid _ := next21_ok B a g (off + k) (nums rs) (x : Int) wr HI.out.2.1 (by rw [nums_len]; have := HLN.out; omega) hat hx00 hxi
      have HK : Hid (k < bs.length) := hkn
      have hkl : k + 1 ≤ 140737488355328 := by have := HLN.out; omega
      unfold rmv at HX
      clear hkn hk hat hx hxb
      go_wp2_with fail
      refine Calls.mono HX.out ?_
      rintro z w2 ⟨rfl, hr, hc⟩
      have hown3 := own_take (ByO.new (byO_keepB HI.out.1 hc (fun g e => by subst e; have := HG.out; omega)) (chg_one w2 (.cells #[.int .u8 (x : Int)] 5))) (Nat.le_of_lt HK.out)
      have hsrc3 := (Bk.row8_one w2 (x : Int) 5).src
      have hone3 := oneB [x]
      have hB3 : N + 1 ≤ (w2.alloc (.cells #[.int .u8 (x : Int)] 5)).heap.size := by
        have h1 := HI.out.2.2.2.2.1
        have h2 := hc.size
        rw [World.size_alloc]
        omega
      have HR2 : Hid (Wire.Rd B (w2.alloc (.cells #[.int .u8 (x : Int)] 5)) a g (nums rs) (off + k + 1)) := rd_alloc hr _
      have hc3 := hc.trans (chg_one w2 (.cells #[.int .u8 (x : Int)] 5)) (fun _ f => f.elim)
      have HC3 : Hid (Chg (fun z => z = a) wr (w2.alloc (.cells #[.int .u8 (x : Int)] 5))) := hc3
      have HLT : Hid (∀ j, (Value.slice ad k c).ownBlock = some j → N < j) := fun j e => by have := (hown3.lt j e).1; omega
      clear hr hc hc3 HX
      go_wp2_with (at_builtin; refine wpList_append_moved rfl _ _ 25 rfl (N + 1) 5 iu (.int .u8 0) 1 1 Tryd.underlying25 hiu hu0 hu1 hu2 rfl (by decide) _ k ((nums (bs.take k)).map (Value.int .u8)) rfl (some ⟨w2.heap.size, 0, none⟩) 1 1 rfl ((nums [x]).map (Value.int .u8)) ?h1 ?h2 ?h3 ?m1 ?m2 ?m3 ?_)
      case h1 => exact hown3
      case h2 => exact hsrc3
      case h3 => exact hone3
      case m1 => unfold maxLen; omega
      case m2 => omega
      case m3 => exact hB3
      intro v4 w4 ho4 hg4 hm4
      have hS4 : Chg (fun z => N < z) (w2.alloc (.cells #[.int .u8 (x : Int)] 5)) w4 := (Chg.refl _ _).grown hg4 (fun j e => .inl (HLT.out j e))
      have hby := byO_app (a := bs.take k) (b := [x]) ho4
      rw [← HXB.out, take_next bs HK.out] at hby
      obtain ⟨a4, c4, rfl⟩ := form1 ho4
      have HJ : Hid (ByO w4 (N + 1) (.slice a4 (k + 1) c4) (bs.take (k + 1)) ∧ Wire.Rd B w4 a g (nums rs) (off + (k + 1)) ∧ w4.heap[N]? = some (.cells #[.pointer (some ⟨a, 0, none⟩)] 63 (0, 0)) ∧ Chg (fun z => z = a) w0 w4 ∧ N + 1 ≤ w4.heap.size) := by
        have h1 := HG.out
        have h2 := HI.out
        have h3 := HC3.out
        have h4 := HN.out
        refine ⟨hby, HR2.out.keep hS4 (by omega) (by omega), blk_keep (blk_keep h2.2.2.1 h3 (by omega)) hS4 (by omega), (h2.2.2.2.1.trans h3 (fun _ e => .inl e)).trans hS4 (fun z e => .inr (by omega)), Nat.le_trans hB3 hS4.size⟩
      have HE1 : Hid ((getN (bs.take k)).2.2 = 1) := HI.out.2.2.2.2.2
      have hrow := byO_row hby
      have HV : Hid _ := Vint.get_any a4 (k + 1) c4 (nums (bs.take (k + 1))) w4 hrow.1 (dig_b8 (dig_take HD.out _)) hrow.2.2 hkl
      clear hown3 hsrc3 hone3 hB3 ho4 hg4 hm4 hS4 hby hrow HI HR2 HC3 HLT hx0
      go_wp2_with fail
      refine Calls.mono HV.out ?_
      rintro z w5 ⟨v, n, e, rfl, hge, rfl⟩
      obtain ⟨q1, q2, q3⟩ := getN_of hge
      have hp := getN_pos (bs.take (k + 1))
      have hst := stepN HD.out HK.out HE1.out
      rcases (show e = 0 ∨ e = 1 ∨ e = 2 by omega) with rfl | rfl | rfl
      · obtain ⟨s1, s2⟩ := hst (by rw [← q3]; decide)
        have s3 := s2 q3.symm
        have HF : Hid ((getN bs).2.2 = 0 ∧ v = ((getN bs).1 : Int) ∧ (getN bs).2.1 = k + 1) := ⟨by rw [s1]; exact q3.symm, by rw [s1]; exact q1, by rw [s1]; exact s3⟩
        clear hge q1 q2 q3 hp hst s1 s2 s3 HV
        go_wp2
        go_ret
        exact ⟨.inl ⟨HF.out.1, by rw [HF.out.2.1]; rfl, by rw [HF.out.2.2]; exact HJ.out.2.1⟩, HJ.out.2.2.2.1⟩
      · have HE2 : Hid ((getN (bs.take (k + 1))).2.2 = 1) := q3.symm
        clear hge q1 q2 q3 hp hst HV
        go_wp2
        refine ⟨⟨k + 1, a4, c4, HK.out, rfl, HJ.out.1, HJ.out.2.1, HJ.out.2.2.1, HJ.out.2.2.2.1, HJ.out.2.2.2.2, HE2.out⟩, ?_⟩
        have := HK.out
        simp only [lenV]
        omega
      · obtain ⟨s1, -⟩ := hst (by rw [← q3]; decide)
        have HF : Hid ((getN bs).2.2 ≠ 0) := by show _ ≠ _; rw [s1, ← q3]; decide
        clear hge q1 q2 q3 hp hst s1 HV
        go_wp2
        exact ⟨rfl, .inr ⟨HF.out, rfl⟩, HJ.out.2.2.2.1⟩
set_option maxHeartbeats 16000000 in
set_option maxRecDepth 100000 in
theorem wholeF_any (B a g off : Nat) (rs : List Nat) (w0 : World) (C : ChainSpec Vint.Tab) (hT : Vint.Tab w0) (h : Wire.Rd B w0 a g (nums rs) off) (hd : Rc.Dig rs) : Calls Tryd.prog 50 #[rmv a, .func (.func 51) #[] #[]] w0 fun e w' => (((Cn20.getF (rs.drop off)).2.2 = 0 ∧ ∃ pv, e = .returned (.agg #[.int .u64 ((Cn20.getF (rs.drop off)).1.id : Int), pv]) ∧ ByO w' w0.heap.size pv (Cn20.getF (rs.drop off)).1.ps ∧ Wire.Rd B w' a g (nums rs) (off + (Cn20.getF (rs.drop off)).2.1)) ∨ ((Cn20.getF (rs.drop off)).2.2 ≠ 0 ∧ e = .panicked (gaveH (rtE (Cn20.getF (rs.drop off)).2.2)))) ∧ Chg (fun z => z = a) w0 w' := by
  obtain ⟨iu, hiu, hu0, hu1, hu2⟩ := info_parts info5u
  have hcf : ∀ args w, (callFunc 51 args).run Tryd.prog w = .ok (.enter 51 args) w := fun _ _ => rfl
  have cA := chg_one w0 (.cells #[.pointer (some ⟨a, 0, none⟩)] 63)
  have bA := heap_alloc_last w0 (.cells #[.pointer (some ⟨a, 0, none⟩)] 63)
  have cB := chg_one (w0.alloc (.cells #[.pointer (some ⟨a, 0, none⟩)] 63)) (.cells #[.int .u64 0, .slice none 0 0] 54)
  have bB := heap_alloc_last (w0.alloc (.cells #[.pointer (some ⟨a, 0, none⟩)] 63)) (.cells #[.int .u64 0, .slice none 0 0] 54)
  have bA1 := blk_keep bA cB (fun f => f)
  have hN1 : (w0.alloc (.cells #[.pointer (some ⟨a, 0, none⟩)] 63)).heap.size = w0.heap.size + 1 := World.size_alloc _ _
  rw [hN1] at bB
  have HTa : Hid (a ≠ 0 ∧ Vint.Tab w0) := ⟨rd_tab h hT, hT⟩
  obtain ⟨bs, hbs⟩ : ∃ bs, rs.drop off = bs := ⟨_, rfl⟩
  have HBS : Hid (rs.drop off = bs) := hbs
  have HLN : Hid (bs.length + off = rs.length ∧ rs.length ≤ 140737488355328) := ⟨by have := h.le; rw [nums_len] at this; rw [← hbs, List.length_drop]; omega, by have := h.len; rwa [nums_len] at this⟩
  have HD : Hid (Rc.Dig bs) := by show Rc.Dig _; rw [← hbs]; exact dig_drop hd off
  have HG : Hid (a < w0.heap.size ∧ g < w0.heap.size) := h.lt
  have HST : Hid (Wire.Rd B ((w0.alloc (.cells #[.pointer (some ⟨a, 0, none⟩)] 63)).alloc (.cells #[.int .u64 0, .slice none 0 0] 54)) a g (nums rs) off ∧ ((w0.alloc (.cells #[.pointer (some ⟨a, 0, none⟩)] 63)).alloc (.cells #[.int .u64 0, .slice none 0 0] 54)).heap[w0.heap.size]? = some (.cells #[.pointer (some ⟨a, 0, none⟩)] 63 (0, 0)) ∧ ((w0.alloc (.cells #[.pointer (some ⟨a, 0, none⟩)] 63)).alloc (.cells #[.int .u64 0, .slice none 0 0] 54)).heap[w0.heap.size + 1]? = some (.cells #[.int .u64 0, .slice none 0 0] 54 (0, 0)) ∧ Chg (fun z => z = a) w0 ((w0.alloc (.cells #[.pointer (some ⟨a, 0, none⟩)] 63)).alloc (.cells #[.int .u64 0, .slice none 0 0] 54)) ∧ w0.heap.size + 2 ≤ ((w0.alloc (.cells #[.pointer (some ⟨a, 0, none⟩)] 63)).alloc (.cells #[.int .u64 0, .slice none 0 0] 54)).heap.size) := ⟨rd_alloc (rd_alloc h _) _, bA1, bB, (chg_then cA cB).mono (fun _ f => f.elim), by rw [World.size_alloc, World.size_alloc]; exact Nat.le_refl _⟩
  rw [hbs]
  have hx9 : ((w0.alloc (.cells #[.pointer (some ⟨a, 0, none⟩)] 63)).alloc (.cells #[.int .u64 0, .slice none 0 0] 54)).cell? ⟨w0.heap.size, 0, none⟩ = some (.pointer (some ⟨a, 0, none⟩)) := cell00 bA1
  unfold rmv
  clear h hd hbs cA bA cB bB bA1 hN1 hT
  go_enter Tryd.func50, Tryd.ntmps50
  go_upto_region 1 with fail
  generalize (w0.alloc (.cells #[.pointer (some ⟨a, 0, none⟩)] 63)).alloc (.cells #[.int .u64 0, .slice none 0 0] 54) = w1 at *
  clear hx9
  obtain ⟨N, hN⟩ : ∃ N, w0.heap.size = N := ⟨_, rfl⟩
  rw [hN] at HST HG
  try rw [hN]
  have HN : Hid (w0.heap.size = N) := hN
  clear hN
  go_wp2_with fail
  go_loopw [5] (fun t wr => ∃ (k : Nat) (ad : Option Addr) (c : Nat), k ≤ bs.length ∧ t = .slice ad k c ∧ Hid (ByO wr (N + 2) (.slice ad k c) (bs.take k) ∧ Wire.Rd B wr a g (nums rs) (off + k) ∧ wr.heap[N]? = some (.cells #[.pointer (some ⟨a, 0, none⟩)] 63 (0, 0)) ∧ Chg (fun z => z = a) w0 wr ∧ N + 2 ≤ wr.heap.size ∧ (Cn20.getF (bs.take k)).2.2 = 1 ∧ wr.heap[N + 1]? = some (.cells #[.int .u64 0, .slice none 0 0] 54 (0, 0)))) (fun t _ => bs.length - lenV t)
  case atStart => exact ⟨0, none, 0, Nat.zero_le _, rfl, by rw [List.take_zero]; exact byO_nil _ _, HST.out.1, HST.out.2.1, HST.out.2.2.2.1, HST.out.2.2.2.2, by rw [List.take_zero]; exact Cn20.getF_nil, HST.out.2.2.1⟩
  case round =>
    obtain ⟨k, ad, c, hk, rfl, HI⟩ := hrel
    have hx0 : wr.cell? ⟨N, 0, none⟩ = some (.pointer (some ⟨a, 0, none⟩)) := cell00 HI.out.2.2.1
    by_cases hkn : k < bs.length
    rotate_left
    · obtain rfl : k = bs.length := by omega
      have HX : Hid _ := next21_end B a g (off + bs.length) (nums rs) wr HI.out.2.1 (by rw [nums_len]; have := HLN.out; omega)
      have HE : Hid ((Cn20.getF bs).2.2 = 1) := by have := HI.out.2.2.2.2.2.1; rwa [List.take_length] at this
      have HC9 : Hid (Chg (fun z => z = a) w0 wr) := HI.out.2.2.2.1
      unfold rmv at HX
      clear hkn hk HI
      go_wp2_with fail
      refine Calls.mono HX.out ?_
      rintro z w2 ⟨rfl, hc⟩
      exact ⟨rfl, .inr ⟨by rw [HE.out]; decide, by rw [HE.out]; rfl⟩, HC9.out.trans hc (fun _ e => .inl e)⟩
    · have hxb := dig_at HD.out k
      have hat := numsR_at (k := k) HBS.out
      obtain ⟨x, hx⟩ : ∃ x, bs.getD k 0 = x := ⟨_, rfl⟩
      rw [hx] at hxb hat
      have HXB : Hid (bs.getD k 0 = x) := hx
      have hxi : (x : Int) ≤ 255 := by omega
      have hx00 : 0 ≤ (x : Int) := Int.natCast_nonneg x
      have HX : Hid _ := next21_ok B a g (off + k) (nums rs) (x : Int) wr HI.out.2.1 (by rw [nums_len]; have := HLN.out; omega) hat hx00 hxi
      have HK : Hid (k < bs.length) := hkn
      have hkl : k + 1 ≤ 140737488355328 := by have := HLN.out; omega
      unfold rmv at HX
      clear hkn hk hat hx hxb
      go_wp2_with fail
      refine Calls.mono HX.out ?_
      rintro z w2 ⟨rfl, hr, hc⟩
      have hown3 := own_take (ByO.new (byO_keepB HI.out.1 hc (fun g e => by subst e; have := HG.out; omega)) (chg_one w2 (.cells #[.int .u8 (x : Int)] 5))) (Nat.le_of_lt HK.out)
      have hsrc3 := (Bk.row8_one w2 (x : Int) 5).src
      have hone3 := oneB [x]
      have hB3 : N + 2 ≤ (w2.alloc (.cells #[.int .u8 (x : Int)] 5)).heap.size := by
        have h1 := HI.out.2.2.2.2.1
        have h2 := hc.size
        rw [World.size_alloc]
        omega
      have HR2 : Hid (Wire.Rd B (w2.alloc (.cells #[.int .u8 (x : Int)] 5)) a g (nums rs) (off + k + 1)) := rd_alloc hr _
      have hc3 := hc.trans (chg_one w2 (.cells #[.int .u8 (x : Int)] 5)) (fun _ f => f.elim)
      have HC3 : Hid (Chg (fun z => z = a) wr (w2.alloc (.cells #[.int .u8 (x : Int)] 5))) := hc3
      have HLT : Hid (∀ j, (Value.slice ad k c).ownBlock = some j → N < j ∧ N + 1 < j) := fun j e => by have := (hown3.lt j e).1; omega
      clear hr hc hc3 HX
      go_wp2_with (at_builtin; refine wpList_append_moved rfl _ _ 25 rfl (N + 2) 5 iu (.int .u8 0) 1 1 Tryd.underlying25 hiu hu0 hu1 hu2 rfl (by decide) _ k ((nums (bs.take k)).map (Value.int .u8)) rfl (some ⟨w2.heap.size, 0, none⟩) 1 1 rfl ((nums [x]).map (Value.int .u8)) ?h1 ?h2 ?h3 ?m1 ?m2 ?m3 ?_)
      case h1 => exact hown3
      case h2 => exact hsrc3
      case h3 => exact hone3
      case m1 => unfold maxLen; omega
      case m2 => omega
      case m3 => exact hB3
      intro v4 w4 ho4 hg4 hm4
      have hS4 : Chg (fun z => N < z ∧ N + 1 < z) (w2.alloc (.cells #[.int .u8 (x : Int)] 5)) w4 := (Chg.refl _ _).grown hg4 (fun j e => .inl (HLT.out j e))
      have hby := byO_app (a := bs.take k) (b := [x]) ho4
      rw [← HXB.out, take_next bs HK.out] at hby
      obtain ⟨a4, c4, rfl⟩ := form1 ho4
      have HJ : Hid (ByO w4 (N + 2) (.slice a4 (k + 1) c4) (bs.take (k + 1)) ∧ Wire.Rd B w4 a g (nums rs) (off + (k + 1)) ∧ w4.heap[N]? = some (.cells #[.pointer (some ⟨a, 0, none⟩)] 63 (0, 0)) ∧ Chg (fun z => z = a) w0 w4 ∧ N + 2 ≤ w4.heap.size ∧ w4.heap[N + 1]? = some (.cells #[.int .u64 0, .slice none 0 0] 54 (0, 0))) := by
        have h1 := HG.out
        have h2 := HI.out
        have h3 := HC3.out
        have h4 := HN.out
        refine ⟨hby, HR2.out.keep hS4 (by omega) (by omega), blk_keep (blk_keep h2.2.2.1 h3 (by omega)) hS4 (by omega), (h2.2.2.2.1.trans h3 (fun _ e => .inl e)).trans hS4 (fun z e => .inr (by omega)), Nat.le_trans hB3 hS4.size, blk_keep (blk_keep h2.2.2.2.2.2.2 h3 (by omega)) hS4 (by omega)⟩
      have HE1 : Hid ((Cn20.getF (bs.take k)).2.2 = 1) := HI.out.2.2.2.2.2.1
      have hrow := byO_row hby
      have hT4 : Vint.Tab w4 := HTa.out.2.keep HJ.out.2.2.2.1 (Ne.symm HTa.out.1)
      have HV : Hid _ := C.get a4 (k + 1) c4 (bs.take (k + 1)) w4 hT4 hrow.1 (dig_take HD.out _) hrow.2.2 hkl
      clear hown3 hsrc3 hone3 hB3 ho4 hg4 hm4 hS4 hby hrow HI HR2 HC3 HLT hx0 hT4
      go_wp2_with fail
      refine Calls.mono HV.out ?_
      rintro z w5 ⟨pv, rfl, hpv, hc5⟩
      obtain ⟨pa, pc, rfl⟩ := byO_form hpv
      have hst := Cn20.stepF HD.out (by have := HLN.out; omega) HK.out HE1.out
      have hp := (Cn20.get_pos (bs.take (k + 1))).2
      have HP5 : Hid (ByO w5 w4.heap.size (.slice pa (Cn20.getF (bs.take (k + 1))).1.ps.length pc) (Cn20.getF (bs.take (k + 1))).1.ps ∧ Chg (fun _ => False) w4 w5) := ⟨hpv, hc5⟩
      obtain ⟨q, hq⟩ : ∃ q, Cn20.getF (bs.take (k + 1)) = q := ⟨_, rfl⟩
      rw [hq] at hst hp HP5
      have HQ : Hid (Cn20.getF (bs.take (k + 1)) = q) := hq
      try rw [hq]
      obtain ⟨⟨qi, qs⟩, qn, qe⟩ := q
      simp only at hst hp HP5
      simp only [hq]
      obtain ⟨L, hL⟩ : ∃ L, qs.length = L := ⟨_, rfl⟩
      rw [hL] at HP5
      rw [hL]
      clear hq hpv hc5 hL
      clear HV
      have HV2 : Hid (Chg (fun _ => False) w5 (w5.alloc (.cells #[.int .u64 (qi : Int), .slice pa L pc] 54)) ∧ (w5.alloc (.cells #[.int .u64 (qi : Int), .slice pa L pc] 54)).heap[w5.heap.size]? = some (.cells #[.int .u64 (qi : Int), .slice pa L pc] 54 (0, 0))) := ⟨chg_one w5 _, heap_alloc_last w5 _⟩
      go_upto_region 4 with fail
      generalize w5.alloc (.cells #[.int .u64 (qi : Int), .slice pa L pc] 54) = w6 at *
      obtain ⟨v, hv⟩ : ∃ v, w5.heap.size = v := ⟨_, rfl⟩
      try rw [hv]
      have HJ6 : Hid (ByO w6 w0.heap.size (.slice pa L pc) qs ∧ Wire.Rd B w6 a g (nums rs) (off + (k + 1)) ∧ Chg (fun z => z = a) w0 w6 ∧ w6.heap[N + 1]? = some (.cells #[.int .u64 0, .slice none 0 0] 54 (0, 0)) ∧ w6.heap[v]? = some (.cells #[.int .u64 (qi : Int), .slice pa L pc] 54 (0, 0)) ∧ Chg (fun _ => False) w4 w6 ∧ N + 1 < w4.heap.size ∧ w4.heap.size ≤ v) := by
        have h1 := HJ.out
        have h2 := HP5.out
        have h3 := HV2.out
        have c6 := h2.2.trans h3.1 (fun _ f => f.elim)
        have h4 := h2.2.size
        have h5 := HN.out
        rw [hv] at h3 h4
        exact ⟨owns_base (h2.1.new h3.1) (by omega), h1.2.1.chg c6, h1.2.2.2.1.trans c6 (fun _ f => f.elim), blk_keep h1.2.2.2.2.2 c6 (fun f => f), h3.2, c6, by omega, h4⟩
      have HJR : Hid (ByO w6 (N + 2) (.slice a4 (k + 1) c4) (bs.take (k + 1)) ∧ w6.heap[N]? = some (.cells #[.pointer (some ⟨a, 0, none⟩)] 63 (0, 0)) ∧ N + 2 ≤ w6.heap.size) := by
        have h1 := HJ.out
        have h2 := HJ6.out
        exact ⟨h1.1.new h2.2.2.2.2.2.1, blk_keep h1.2.2.1 h2.2.2.2.2.2.1 (fun f => f), Nat.le_trans h1.2.2.2.2.1 h2.2.2.2.2.2.1.size⟩
      have HPO : Hid (ByO w6 w4.heap.size (.slice pa L pc) qs) := HP5.out.1.new HV2.out.1
      clear hv HV2 HP5 HJ
      rcases (show qe = 0 ∨ qe = 1 ∨ qe = 2 by omega) with rfl | rfl | rfl
      · obtain ⟨s1, s2⟩ := hst (by decide)
        have HF : Hid (Cn20.getF bs = (⟨qi, qs⟩, k + 1, 0)) := by show _ = _; rw [s1, s2 rfl]
        have hb9 := HJ6.out.2.2.2.2.1
        have hb8 := HJ6.out.2.2.2.1
        obtain ⟨x0, x1, _, _⟩ := cells2f hb9
        obtain ⟨y0, y1, f0, f1⟩ := cells2f hb8
        have r1 := blk_setkH (l := [.int .u64 0, .slice none 0 0]) hb8 0 (.int .u64 (qi : Int))
        have r2 := blk_setkH (l := [.int .u64 (qi : Int), .slice none 0 0]) r1 1 (.slice pa L pc)
        have cR : Chg (fun z => z = N + 1) w6 ((w6.setCell ⟨N + 1, 0, none⟩ (.int .u64 (qi : Int))).setCell ⟨N + 1, 1, none⟩ (.slice pa L pc)) := ((Chg.refl (fun z => z = N + 1) w6).setCell (p := ⟨N + 1, 0, none⟩) (.inl rfl) _).setCell (p := ⟨N + 1, 1, none⟩) (.inl rfl) _
        have HRS : Hid (((w6.setCell ⟨N + 1, 0, none⟩ (.int .u64 (qi : Int))).setCell ⟨N + 1, 1, none⟩ (.slice pa L pc)).heap[N + 1]? = some (.cells #[.int .u64 (qi : Int), .slice pa L pc] 54 (0, 0)) ∧ Chg (fun z => z = N + 1) w6 ((w6.setCell ⟨N + 1, 0, none⟩ (.int .u64 (qi : Int))).setCell ⟨N + 1, 1, none⟩ (.slice pa L pc))) := ⟨r2, cR⟩
        clear hst hp hb9 hb8 r1 r2 cR s1 s2 HQ
        go_wp2
        generalize (w6.setCell ⟨N + 1, 0, none⟩ (.int .u64 (qi : Int))).setCell ⟨N + 1, 1, none⟩ (.slice pa L pc) = w7 at *
        obtain ⟨z0, z1, _, _⟩ := cells2f HRS.out.1
        have hR := HRS.out.2
        have h1 := HJ6.out
        have h2 := HG.out
        have h3 := HN.out
        have hP := byO_keepB HPO.out hR (fun g e => by subst e; omega)
        refine bodyPost_ret (v := .agg #[.int .u64 (qi : Int), .slice pa L pc]) (by simp [results, Tryd.results50, go_sem, z0, z1]) rfl ?_
        exact ⟨.inl ⟨by rw [HF.out], _, by rw [HF.out], by rw [HF.out]; exact owns_base hP (by omega), by rw [HF.out]; exact h1.2.1.keep hR (by omega) (by omega)⟩, h1.2.2.1.trans hR (fun z e => .inr (by omega))⟩
      · have HE2 : Hid ((Cn20.getF (bs.take (k + 1))).2.2 = 1) := by show _ = _; rw [HQ.out]
        clear hst hp HQ
        go_wp2
        refine ⟨⟨k + 1, a4, c4, HK.out, rfl, HJR.out.1, HJ6.out.2.1, HJR.out.2.1, HJ6.out.2.2.1, HJR.out.2.2, HE2.out, HJ6.out.2.2.2.1⟩, ?_⟩
        have := HK.out
        simp only [lenV]
        omega
      · obtain ⟨s1, -⟩ := hst (by decide)
        have HF : Hid ((Cn20.getF bs).2.2 = 2) := by show _ = _; rw [s1]
        clear hst hp s1 HQ
        go_wp2
        exact ⟨rfl, .inr ⟨by rw [HF.out]; decide, by rw [HF.out]; rfl⟩, HJ6.out.2.2.1⟩
end Go.Proofs.YtkncbanodpfccaaDoor
