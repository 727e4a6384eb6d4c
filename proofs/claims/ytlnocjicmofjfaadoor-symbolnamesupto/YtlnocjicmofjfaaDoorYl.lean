/- SymbolLiterals' walk; of no statement by itself. -/
import Derived.Test.YtlnocjicmofjfaaDoorYg
import Derived.Test.YtlnocjicmofjfaaDoorBoundA
namespace Go.Proofs.YtlnocjicmofjfaaDoor
open Go.RowKit
open St12 Sy13
set_option linter.unusedVariables false
set_option linter.unusedSimpArgs false

variable {Win : World → Nat → Nat → Value → Nat → List Nat → Prop} {Tab : World → Prop}
theorem lit_I {x : Nat} (h : x < 256) : (litY x).I := symI 1 (x : Int) 0 0 ⟨by decide, by decide⟩ ⟨by decide, by decide⟩ ⟨by decide, by decide⟩ ⟨by omega, by omega⟩
theorem lits_I {bs : List Nat} (h : Rc.Dig bs) : ∀ y ∈ bs.map litY, y.I := fun y hy => by
  obtain ⟨x, hx, rfl⟩ := List.mem_map.1 hy
  exact lit_I (h x hx)
theorem sizeA_lit (x : Nat) : sizeA (litY x) = 1 := by
  unfold sizeA litY
  rw [if_neg (by rw [formed_lit 1 _ _ _ rfl]; simp)]
  rfl
/-- The literals, and one match behind them. -/
theorem exp_lits {n : Nat} {bs : List Nat} : exp n [] st0 0 (bs.map litY) = (bs, bs.length, 0) := by
  obtain ⟨s', h, _⟩ := run_lits n bs [] st0 (by decide)
  rw [exp_run 0 h]
  simp
theorem exp_round {n : Nat} {bs : List Nat} {m : Int} (h0 : 0 < bs.length) (hn : bs.length ≤ n) (hm : 2 ≤ m ∧ m ≤ 273) (hb : bs.length ≤ 4294967295) : exp n [] st0 0 (bs.map litY ++ [⟨2, 0, m, (bs.length : Int)⟩]) = (bs ++ copyL bs.length bs m.toNat, bs.length + 1, 0) := by
  obtain ⟨s', h, hr⟩ := run_lits n bs [] st0 (by decide)
  rw [List.nil_append] at h
  rw [exp_append _ 0 h]
  have ha := app_match (n := n) (bs := bs) hr 0 m (bs.length : Int) hm ⟨by omega, by omega⟩
  rw [if_pos (by unfold inwD fullN; omega), Int.toNat_natCast] at ha
  simp only [exp]
  rw [ha, if_pos rfl]
  simp
set_option maxHeartbeats 16000000 in
set_option maxRecDepth 100000 in
theorem literals_any (Y : SymSpec Win Tab) (dict m : Int) (ba : Option Addr) (bc bL : Nat) (bs : List Nat) (w0 : World) (hT : Tab w0) (hL : bs.length = bL) (hr : Row8 w0 ba bL bc (nums bs)) (hdig : Rc.Dig bs) (hle : bL ≤ 1048576) (him : I64 m) : Calls Tryd.prog 5 #[.slice ba bL bc, .int .i64 dict, .int .i64 m] w0 fun e w' => e = .returned (.bool true) ∧ Chg (fun _ => False) w0 w' := by
  obtain ⟨iu, hiu, hu0, hu1, hu2⟩ := info_parts infoU8
  obtain ⟨iy, hiy, hy0, hy1, hy2⟩ := info_parts infoSym
  obtain ⟨n, hn⟩ : ∃ n, dictN dict = n := ⟨_, rfl⟩
  have hn1 := dictN_in dict
  rw [hn] at hn1
  have HD : Hid (∀ w, Calls Tryd.prog 8 #[.int .i64 dict] w fun e w' => e = .returned (.int .i64 (n : Int)) ∧ w' = w) := fun w => by rw [← hn]; exact lsize_q dict w
  have HT0 : Hid (Tab w0) := hT
  have HR0 : Hid (Row8 w0 ba bL bc (nums bs)) := hr
  have HBL : Hid (bs.length = bL) := hL
  have HDG : Hid (Rc.Dig bs) := hdig
  obtain ⟨hna, hnb⟩ := hn1
  clear hn hT hL hdig
  have cE := chg_one w0 (.cells #[] 5)
  have hown : (w0.alloc (.cells #[] 5)).ownsRow w0.heap.size 5 1 (.slice (some ⟨w0.heap.size, 0, none⟩) 0 0) 0 [] := own_empty w0 5
  have hsrc := (Row8.src hr).keep cE
  have hone := one8 bs
  have hszE : w0.heap.size ≤ (w0.alloc (.cells #[] 5)).heap.size := by rw [World.size_alloc]; omega
  clear hr
  go_enter Tryd.func5, Tryd.ntmps5
  go_wp2_with fail
  refine (HD.out _).mono ?_
  rintro z w ⟨rfl, rfl⟩
  go_wp2_with (at_builtin; refine wpList_append_moved rfl _ _ 24 rfl w.heap.size 5 iu (.int .u8 0) 1 1 Tryd.underlying24 hiu hu0 hu1 hu2 rfl (by decide) _ 0 [] rfl ba bL bc rfl ((nums bs).map (Value.int .u8)) hown hsrc hone (by unfold maxLen; omega) (by omega) hszE ?_)
  intro v1 w1 ho1 hg1 hm1
  have c1 : Chg (fun z => (Value.slice (some ⟨w.heap.size, 0, none⟩) 0 0).ownBlock = some z) (w.alloc (.cells #[] 5)) w1 := (Chg.refl _ _).grown hg1 (fun z e => .inl e)
  have HC1 : Hid (Chg (fun _ => False) w w1) := cE.trans c1 (fun z e => .inr (World.ownsRow.lt hown z e).1)
  skip
  obtain ⟨a1, d1, hv1⟩ := form1 ho1
  subst hv1
  have HO1 : Hid (w1.ownsRow w.heap.size 5 1 (.slice a1 bL d1) bL (ins .u8 (nums bs))) := ho1
  have HLI : Hid (Calls Tryd.prog 15 #[.slice a1 bL d1] w1 fun e w' => ∃ ov, e = .returned ov ∧ SymO w' w1.heap.size ov (bs.map litY) ∧ Chg (fun _ => False) w1 w') := by
    have h9 := Y.lits a1 d1 bs w1 (Y.new HT0.out HC1.out) (by rw [HBL.out]; exact row8_own ho1) HDG.out (by rw [HBL.out]; exact own_cap ho1) (by rw [HBL.out]; omega)
    rw [HBL.out] at h9
    exact h9
  clear ho1 hg1 hm1 c1 hown hsrc hone cE hszE HD
  go_wp2_with fail
  refine Calls.mono HLI.out ?_
  rintro z w2 ⟨lv, rfl, hlo, c2⟩
  have HC2 : Hid (Chg (fun _ => False) w w2) := chg_then HC1.out c2
  have HLL : Hid ((bs.map litY).length = bL) := by show _ = _; rw [List.length_map, HBL.out]
  have HLO : Hid (SymO w2 w1.heap.size lv (bs.map litY)) := hlo
  obtain ⟨la, lc, hlv, hsl, hlc⟩ := hlo.list (lits_I HDG.out)
  rw [HLL.out] at hlv hlc
  subst hlv
  have HSL : Hid (SymL w2 la (bs.map litY)) := hsl
  have HKN : Hid _ := known_any Y w2 (Y.new HT0.out HC2.out)
  have HSZ1 : Hid (w.heap.size ≤ w1.heap.size) := HC1.out.size
  have HSZ2 : Hid (w1.heap.size ≤ w2.heap.size) := c2.size
  clear c2 hlo hsl HLI HC1 HO1
  go_wp2_with fail
  refine Calls.mono HKN.out ?_
  rintro z w3 ⟨rfl, c3⟩
  have HC3 : Hid (Chg (fun _ => False) w2 w3) := c3
  clear c3 HKN
  go_wp2_with fail
  go_loopw [31] (fun v1 wr => ∃ (i : Nat), i ≤ bL ∧ v1 = .int .i64 (i : Int) ∧ Hid (Chg (fun _ => False) w2 wr)) (fun v1 _ => bL - (intOf v1).toNat)
  case atStart => exact ⟨0, by omega, rfl, HC3.out⟩
  case round =>
    clear HC3
    obtain ⟨i, hi, rfl, HCW⟩ := hrel
    have hii : (i : Int) ≤ (bL : Int) := by omega
    have hbi : (bL : Int) ≤ 1048576 := by omega
    by_cases hlt : i < bL
    · have hd1 : decide ((i : Int) < (bL : Int)) = true := by simp; omega
      have hd1' : decide (i < bL) = true := decide_eq_true hlt
      obtain ⟨x, hx⟩ : ∃ x, bs[i]? = some x := ⟨bs[i]'(by have := HBL.out; omega), List.getElem?_eq_getElem _⟩
      have hy : (bs.map litY)[i]? = some (litY x) := by rw [List.getElem?_map, hx]; rfl
      obtain ⟨hyi, lb, lo, had, k0, k1, k2, k3⟩ := HSL.out.new HCW.out i (litY x) hy
      simp only [litY] at k0 k1 k2 k3
      obtain ⟨bx, hbx, _⟩ := row8_cell HR0.out hx
      have HBX : Hid (∀ w_, Chg (fun _ => False) w w_ → w_.cell? (bx.add i) = some (.int .u8 (x : Int))) := fun w_ hc => by
        obtain ⟨b2, e2, h2⟩ := row8_cell (row8_keep HR0.out hc (fun _ _ f => f)) hx
        rw [hbx] at e2
        simp only [Option.some.injEq] at e2
        rw [e2]
        exact h2
      have HSI : Hid (∀ w_, Tab w_ → Calls Tryd.prog 13 #[.agg #[.int .i64 1, .int .u8 (x : Int), .int .i64 0, .int .i64 0]] w_ fun e w' => e = .returned (.int .i64 1) ∧ Chg (fun _ => False) w_ w') := fun w_ h => by
        have h9 := Y.size (litY x) w_ h hyi
        rw [sizeA_lit] at h9
        exact h9
      have cY := chg_one wr (.cells #[.int .i64 1, .int .u8 (x : Int), .int .i64 0, .int .i64 0] 33)
      have HYW : Hid ((wr.alloc (.cells #[.int .i64 1, .int .u8 (x : Int), .int .i64 0, .int .i64 0] 33)).heap[wr.heap.size]? = some (.cells #[.int .i64 1, .int .u8 (x : Int), .int .i64 0, .int .i64 0] 33 (0, 0))) := heap_alloc_last _ _
      have HCY : Hid (Chg (fun _ => False) w2 (wr.alloc (.cells #[.int .i64 1, .int .u8 (x : Int), .int .i64 0, .int .i64 0] 33))) := chg_then HCW.out cY
      have HCWY : Hid (Chg (fun _ => False) w (wr.alloc (.cells #[.int .i64 1, .int .u8 (x : Int), .int .i64 0, .int .i64 0] 33))) := chg_then HC2.out HCY.out
      clear hx hy hyi cY HCW
      subst had
      subst hbx
      go_wp2_with fail
      generalize wr.alloc (.cells #[.int .i64 1, .int .u8 (x : Int), .int .i64 0, .int .i64 0] 33) = Wy at *
      generalize wr.heap.size = gy at *
      clear k0 k1 k2 k3
      refine wp_region_free (mk := fun u => #[_, _, _, _, _, _, _, _, _, _, _, _, _, _, _, _, _, _, _, _, _, _, _, _, _, _, _, _, _, _, _, _, _, _, _, _, u 36, u 37, u 38, u 39, u 40, u 41, u 42, u 43, u 44, u 45, u 46, u 47, u 48, u 49, u 50, u 51, u 52, _, _, _, _, _, _, _, _, _, _, _, _, _, _, _, _, _, _, _, _, _, _, _, _, _, _, _, _, _, _, _, _, _, _, _, _, _, _, _, _, _, _, _, _, _, _, _, _, _, _, _, _, _, _, _, _, _, _, _, _, _, _, _, _, _, _, _, _, _, _, _, _, _, _, _, _, _, _, _, _, _, _, _, _, _, _, _, _, _, _, _, _, _, _]) (F := fun slot vv ww => (look [(36, .val (.pointer (some ⟨gy, 0, none⟩))), (37, .val (.int .i64 1)), (38, .val (.bool false)), (39, .val (.bool false)), (40, .val (.pointer (some ⟨gy, 1, none⟩))), (41, .val (.int .u8 (x : Int))), (42, .val (.slice (some bx) bL bc)), (43, .val (.int .i64 (i : Int))), (44, .val (.pointer (some (bx.add i)))), (45, .val (.int .u8 (x : Int))), (46, .val (.bool false)), (47, .val (.bool false)), (48, .val (.bool false)), (49, .val (.agg #[.int .i64 1, .int .u8 (x : Int), .int .i64 0, .int .i64 0])), (50, .val (.int .i64 1)), (51, .val (.bool false)), (52, .val (.bool false))] slot).holds vv ww) (fun q => match q with | 36 => u36 | 37 => u37 | 38 => u38 | 39 => u39 | 40 => u40 | 41 => u41 | 42 => u42 | 43 => u43 | 44 => u44 | 45 => u45 | 46 => u46 | 47 => u47 | 48 => u48 | 49 => u49 | 50 => u50 | 51 => u51 | 52 => u52 | _ => undef) rfl (by kernel_rfl) (by kernel_rfl) ?_ (fun _ v w w' hc h => Fact.stays _ v w w' hc h) ?_ ?_
      · repeat (refine ⟨⟨_, rfl, fun _ _ => rfl⟩, ?_⟩)
        exact trivial
      · refine ⟨?_, ?_, ?_, ?_, ?_, ?_, ?_, ?_, ?_, ?_, ?_, ?_, ?_, ?_, ?_, ?_, ?_, trivial⟩
        · intro u w hc hd K hK -- 36
          clear hd
          go_simp
          exact hK.out (.pointer (some ⟨gy, 0, none⟩)) w (Chg.refl _ _) rfl
        · intro u w hc hd K hK -- 37
          have h36 : (Fact.val (.pointer (some ⟨gy, 0, none⟩))).holds (u 36) w := hd.get 0 (by kernel_rfl)
          simp only [Fact.holds] at h36
          clear hd
          simp only [h36] at hK
          obtain ⟨y0, y1, y2, y3⟩ := cells4y (blk_keep HYW.out hc (fun f => f))
          clear hc
          go_simp
          exact hK.out (.int .i64 1) w (Chg.refl _ _) rfl
        · intro u w hc hd K hK -- 38
          have h37 : (Fact.val (.int .i64 1)).holds (u 37) w := hd.get 1 (by kernel_rfl)
          simp only [Fact.holds] at h37
          clear hd
          simp only [h37] at hK
          go_simp
          exact hK.out (.bool false) w (Chg.refl _ _) rfl
        · intro u w hc hd K hK -- 39
          have h38 : (Fact.val (.bool false)).holds (u 38) w := hd.get 2 (by kernel_rfl)
          simp only [Fact.holds] at h38
          clear hd
          simp only [h38] at hK
          go_simp
          exact hK.out (.bool false) w (Chg.refl _ _) rfl
        · intro u w hc hd K hK -- 40
          have h39 : (Fact.val (.bool false)).holds (u 39) w := hd.get 3 (by kernel_rfl)
          simp only [Fact.holds] at h39
          clear hd
          simp only [h39] at hK
          go_simp
          exact hK.out (.pointer (some ⟨gy, 1, none⟩)) w (Chg.refl _ _) rfl
        · intro u w hc hd K hK -- 41
          have h40 : (Fact.val (.pointer (some ⟨gy, 1, none⟩))).holds (u 40) w := hd.get 4 (by kernel_rfl)
          simp only [Fact.holds] at h40
          have h39 : (Fact.val (.bool false)).holds (u 39) w := hd.get 3 (by kernel_rfl)
          simp only [Fact.holds] at h39
          clear hd
          simp only [h39, h40] at hK
          obtain ⟨y0, y1, y2, y3⟩ := cells4y (blk_keep HYW.out hc (fun f => f))
          clear hc
          go_simp
          exact hK.out (.int .u8 (x : Int)) w (Chg.refl _ _) rfl
        · intro u w hc hd K hK -- 42
          have h39 : (Fact.val (.bool false)).holds (u 39) w := hd.get 3 (by kernel_rfl)
          simp only [Fact.holds] at h39
          clear hd
          simp only [h39] at hK
          go_simp
          exact hK.out (.slice (some bx) bL bc) w (Chg.refl _ _) rfl
        · intro u w hc hd K hK -- 43
          have h39 : (Fact.val (.bool false)).holds (u 39) w := hd.get 3 (by kernel_rfl)
          simp only [Fact.holds] at h39
          clear hd
          simp only [h39] at hK
          go_simp
          exact hK.out (.int .i64 (i : Int)) w (Chg.refl _ _) rfl
        · intro u w hc hd K hK -- 44
          have h42 : (Fact.val (.slice (some bx) bL bc)).holds (u 42) w := hd.get 6 (by kernel_rfl)
          simp only [Fact.holds] at h42
          have h43 : (Fact.val (.int .i64 (i : Int))).holds (u 43) w := hd.get 7 (by kernel_rfl)
          simp only [Fact.holds] at h43
          have h39 : (Fact.val (.bool false)).holds (u 39) w := hd.get 3 (by kernel_rfl)
          simp only [Fact.holds] at h39
          clear hd
          simp only [h39, h42, h43] at hK
          go_simp
          exact hK.out (.pointer (some (bx.add i))) w (Chg.refl _ _) rfl
        · intro u w hc hd K hK -- 45
          have h44 : (Fact.val (.pointer (some (bx.add i)))).holds (u 44) w := hd.get 8 (by kernel_rfl)
          simp only [Fact.holds] at h44
          have h39 : (Fact.val (.bool false)).holds (u 39) w := hd.get 3 (by kernel_rfl)
          simp only [Fact.holds] at h39
          clear hd
          simp only [h39, h44] at hK
          have kx := HBX.out w (chg_then HCWY.out hc)
          clear hc
          go_simp
          exact hK.out (.int .u8 (x : Int)) w (Chg.refl _ _) rfl
        · intro u w hc hd K hK -- 46
          have h41 : (Fact.val (.int .u8 (x : Int))).holds (u 41) w := hd.get 5 (by kernel_rfl)
          simp only [Fact.holds] at h41
          have h45 : (Fact.val (.int .u8 (x : Int))).holds (u 45) w := hd.get 9 (by kernel_rfl)
          simp only [Fact.holds] at h45
          have h39 : (Fact.val (.bool false)).holds (u 39) w := hd.get 3 (by kernel_rfl)
          simp only [Fact.holds] at h39
          clear hd
          simp only [h39, h41, h45] at hK
          go_simp
          exact hK.out (.bool false) w (Chg.refl _ _) rfl
        · intro u w hc hd K hK -- 47
          have h39 : (Fact.val (.bool false)).holds (u 39) w := hd.get 3 (by kernel_rfl)
          simp only [Fact.holds] at h39
          have h46 : (Fact.val (.bool false)).holds (u 46) w := hd.get 10 (by kernel_rfl)
          simp only [Fact.holds] at h46
          clear hd
          simp only [h39, h46] at hK
          go_simp
          exact hK.out (.bool false) w (Chg.refl _ _) rfl
        · intro u w hc hd K hK -- 48
          have h47 : (Fact.val (.bool false)).holds (u 47) w := hd.get 11 (by kernel_rfl)
          simp only [Fact.holds] at h47
          clear hd
          simp only [h47] at hK
          go_simp
          exact hK.out (.bool false) w (Chg.refl _ _) rfl
        · intro u w hc hd K hK -- 49
          have h48 : (Fact.val (.bool false)).holds (u 48) w := hd.get 12 (by kernel_rfl)
          simp only [Fact.holds] at h48
          clear hd
          simp only [h48] at hK
          obtain ⟨y0, y1, y2, y3⟩ := cells4y (blk_keep HYW.out hc (fun f => f))
          clear hc
          go_simp
          exact hK.out (.agg #[.int .i64 1, .int .u8 (x : Int), .int .i64 0, .int .i64 0]) w (Chg.refl _ _) rfl
        · intro u w hc hd K hK -- 50
          have h49 : (Fact.val (.agg #[.int .i64 1, .int .u8 (x : Int), .int .i64 0, .int .i64 0])).holds (u 49) w := hd.get 13 (by kernel_rfl)
          simp only [Fact.holds] at h49
          have h48 : (Fact.val (.bool false)).holds (u 48) w := hd.get 12 (by kernel_rfl)
          simp only [Fact.holds] at h48
          clear hd
          simp only [h48, h49] at hK
          go_simp
          refine (HSI.out w (Y.new HT0.out (chg_then HCWY.out hc))).mono ?_
          rintro z wz ⟨rfl, cz⟩
          exact hK.out _ wz cz rfl
        · intro u w hc hd K hK -- 51
          have h50 : (Fact.val (.int .i64 1)).holds (u 50) w := hd.get 14 (by kernel_rfl)
          simp only [Fact.holds] at h50
          have h48 : (Fact.val (.bool false)).holds (u 48) w := hd.get 12 (by kernel_rfl)
          simp only [Fact.holds] at h48
          clear hd
          simp only [h48, h50] at hK
          go_simp
          exact hK.out (.bool false) w (Chg.refl _ _) rfl
        · intro u w hc hd K hK -- 52
          have h48 : (Fact.val (.bool false)).holds (u 48) w := hd.get 12 (by kernel_rfl)
          simp only [Fact.holds] at h48
          have h51 : (Fact.val (.bool false)).holds (u 51) w := hd.get 15 (by kernel_rfl)
          simp only [Fact.holds] at h51
          clear hd
          simp only [h48, h51] at hK
          go_simp
          exact hK.out (.bool false) w (Chg.refl _ _) rfl
      · intro u w7 hc hA
        have e52 : u 52 = .bool false := hA.at 52 (by kernel_rfl)
        have HC7 : Hid (Chg (fun _ => False) w2 w7) := chg_then HCY.out hc
        clear hA hc HCY HCWY HYW HSI HBX
        simp only [e52]
        go_wp2_with fail
        exact ⟨⟨i + 1, by omega, by go_num, HC7.out⟩, by simp [intOf]; omega⟩
    · have hd1 : decide ((i : Int) < (bL : Int)) = false := by simp; omega
      have hd1' : decide (i < bL) = false := decide_eq_false hlt
      have HEX : Hid (Calls Tryd.prog 14 #[.int .i64 (n : Int), .slice la bL lc] wr fun e w' => ∃ ov, e = .returned (.tuple #[ov, .int .i64 (bL : Int), .int .i64 0]) ∧ w'.ownsRow wr.heap.size 5 1 ov bL (ins .u8 (nums bs)) ∧ Chg (fun _ => False) wr w') := by
        have h9 := Y.expand (n : Int) la lc (bs.map litY) wr (Y.new HT0.out (chg_then HC2.out HCW.out)) ⟨by omega, by omega⟩ (HSL.out.new HCW.out) (by rw [HLL.out]; exact hlc) (by rw [HLL.out]; omega)
        have h8 : expandA (n : Int) (bs.map litY) = (bs, bL, 0) := by
          unfold expandA
          rw [if_neg (by omega), Int.toNat_natCast, exp_lits, HBL.out]
        rw [h8, HLL.out, HBL.out] at h9
        exact h9
      clear hlt
      go_wp2_with fail
      refine Calls.mono HEX.out ?_
      rintro z w5 ⟨ov, rfl, ho, c5⟩
      obtain ⟨oa, oc, hov⟩ := form1 ho
      subst hov
      have HC5 : Hid (Chg (fun _ => False) w2 w5) := chg_then HCW.out c5
      have HCA : Hid (Chg (fun _ => False) w w5) := chg_then HC2.out HC5.out
      have hcv := conv_own ho
      have hcw := Bk.conv8_here (row8_keep HR0.out HCA.out (fun _ _ f => f))
      clear ho c5 HEX HCW hd1 hd1' hi
      by_cases q0 : bL = 0
      · subst q0
        go_wp2
        go_ret
        exact ⟨rfl, HCA.out⟩
      have e0 : ((bL : Int) == 0) = false := by simp; omega
      have e0' : decide ((bL : Int) = 0) = false := by simp; omega
      have e0p : (bL == 0) = false := by simp; omega
      have e0q : decide (bL = 0) = false := decide_eq_false q0
      by_cases q1 : n < bL
      · have e1 : decide ((n : Int) < (bL : Int)) = true := by simp; omega
        have e1' : decide (n < bL) = true := decide_eq_true q1
        go_wp2
        go_ret
        exact ⟨rfl, HCA.out⟩
      have e1 : decide ((n : Int) < (bL : Int)) = false := by simp; omega
      have e1' : decide (n < bL) = false := decide_eq_false q1
      by_cases q2 : m < 2
      · have e2 : decide (m < 2) = true := decide_eq_true q2
        go_wp2
        go_ret
        exact ⟨rfl, HCA.out⟩
      have e2 : decide (m < 2) = false := decide_eq_false q2
      by_cases q3 : 273 < m
      · have e3 : decide (273 < m) = true := decide_eq_true q3
        go_wp2
        go_ret
        exact ⟨rfl, HCA.out⟩
      have e3 : decide (273 < m) = false := decide_eq_false q3
      obtain ⟨M, hM⟩ : ∃ M : Nat, m = (M : Int) := ⟨m.toNat, by omega⟩
      subst hM
      have hM1 : 2 ≤ M := by omega
      have hM2 : M ≤ 273 := by omega
      have hbL1 : 1 ≤ bL := by omega
      have c6 := chg_one w5 (.cells #[.int .i64 2, .int .u8 0, .int .i64 (M : Int), .int .i64 (bL : Int)] 33)
      have hsrc := from_sym w5 ⟨2, 0, (M : Int), (bL : Int)⟩ 33
      have hone := symcs_cell [⟨2, 0, (M : Int), (bL : Int)⟩]
      have hown : (w5.alloc (.cells #[.int .i64 2, .int .u8 0, .int .i64 (M : Int), .int .i64 (bL : Int)] 33)).ownsRow w1.heap.size 33 4 (.slice la bL lc) bL (symcs (bs.map litY)) := by
        have h9 := SymO.new (SymO.new HLO.out HC5.out) c6
        unfold SymO at h9
        rw [HLL.out] at h9
        exact h9
      have hszE : w1.heap.size ≤ (w5.alloc (.cells #[.int .i64 2, .int .u8 0, .int .i64 (M : Int), .int .i64 (bL : Int)] 33)).heap.size := by have := HSZ2.out; have := HC5.out.size; rw [World.size_alloc]; omega
      go_wp2_with (at_builtin; refine wpList_append_moved rfl _ _ 22 rfl w1.heap.size 33 iy (.agg #[.int .i64 0, .int .u8 0, .int .i64 0, .int .i64 0]) 4 32 Tryd.underlying22 hiy hy0 hy1 hy2 rfl (by decide) _ bL (symcs (bs.map litY)) rfl (some ⟨w5.heap.size, 0, none⟩) 1 1 rfl (symcs [⟨2, 0, (M : Int), (bL : Int)⟩]) hown hsrc hone (by unfold maxLen; omega) (by omega) hszE ?_)
      intro v9 w7 ho9 hg9 hm9
      obtain ⟨fa, fc, hv9⟩ := formSym ho9
      subst hv9
      have c7 : Chg (fun z => (Value.slice la bL lc).ownBlock = some z) (w5.alloc (.cells #[.int .i64 2, .int .u8 0, .int .i64 (M : Int), .int .i64 (bL : Int)] 33)) w7 := (Chg.refl _ _).grown hg9 (fun z e => .inl e)
      have HC7 : Hid (Chg (fun _ => False) w w7) := (chg_then HCA.out c6).trans c7 (fun z e => .inr (Nat.le_trans HSZ1.out (World.ownsRow.lt hown z e).1))
      have HLF : Hid ((bs.map litY ++ [(⟨2, 0, (M : Int), (bL : Int)⟩ : Sym)]).length = bL + 1) := by show _ = _; rw [List.length_append, HLL.out]; rfl
      have HF7 : Hid (SymO w7 w1.heap.size (.slice fa (bL + 1) fc) (bs.map litY ++ [⟨2, 0, (M : Int), (bL : Int)⟩])) := sym_app ho9 HLF.out.symm
      have HOF : Hid (∀ y ∈ bs.map litY ++ [(⟨2, 0, (M : Int), (bL : Int)⟩ : Sym)], y.I) := fun y hy => by
        rcases List.mem_append.1 hy with h | h
        · exact lits_I HDG.out y h
        · simp only [List.mem_singleton] at h
          rw [h]
          exact symI 2 0 (M : Int) (bL : Int) ⟨by decide, by decide⟩ ⟨by omega, by omega⟩ ⟨by omega, by omega⟩ ⟨by decide, by decide⟩
      obtain ⟨cs, hcs⟩ : ∃ cs, bs ++ copyL bL bs M = cs := ⟨_, rfl⟩
      have HCL : Hid (cs.length = bL + M) := by show _ = _; rw [← hcs, List.length_append, copyL_len, HBL.out]
      have HCS : Hid (bs ++ copyL bL bs M = cs) := hcs
      have HEX3 : Hid (Calls Tryd.prog 14 #[.int .i64 (n : Int), .slice fa (bL + 1) fc] w7 fun e w' => ∃ ov, e = .returned (.tuple #[ov, .int .i64 ((bL + 1 : Nat) : Int), .int .i64 0]) ∧ w'.ownsRow w7.heap.size 5 1 ov (bL + M) (ins .u8 (nums cs)) ∧ Chg (fun _ => False) w7 w') := by
        obtain ⟨pa2, pc2, hpv, hpl, hpc⟩ := SymO.list HF7.out HOF.out
        rw [HLF.out] at hpv hpc
        simp only [Value.slice.injEq] at hpv
        obtain ⟨hp1, _, hp3⟩ := hpv
        rw [← hp1] at hpl
        rw [← hp3] at hpc
        have h9 := Y.expand (n : Int) fa fc _ w7 (Y.new HT0.out HC7.out) ⟨by omega, by omega⟩ hpl (by rw [HLF.out]; exact hpc) (by rw [HLF.out]; omega)
        have h8 : expandA (n : Int) (bs.map litY ++ [⟨2, 0, (M : Int), (bL : Int)⟩]) = (cs, bL + 1, 0) := by
          have hb9 := HBL.out
          have h7 := exp_round (n := n) (bs := bs) (m := (M : Int)) (by omega) (by omega) ⟨by omega, by omega⟩ (by omega)
          rw [HBL.out, Int.toNat_natCast, HCS.out] at h7
          unfold expandA
          rw [if_neg (by omega), Int.toNat_natCast, h7]
        rw [h8, HLF.out, HCL.out] at h9
        exact h9
      clear ho9 hg9 hm9 c7 c6 hown hsrc hone hszE hcv hcw hcs
      go_wp2_with fail
      refine Calls.mono HEX3.out ?_
      rintro z w8 ⟨ov, rfl, ho, c8⟩
      obtain ⟨ca, cc, hov⟩ := form1 ho
      subst hov
      have HCO : Hid (w8.ownsRow w7.heap.size 5 1 (.slice ca (bL + M) cc) (bL + M) (ins .u8 (nums cs))) := ho
      have HC8 : Hid (Chg (fun _ => False) w w8) := chg_then HC7.out c8
      clear ho c8 HEX3 HF7 HC7
      go_wp2_with fail
      go_loopw [13] (fun v1 wr => ∃ (i : Nat), bL ≤ i ∧ i ≤ bL + M ∧ v1 = .int .i64 (i : Int) ∧ Hid (Chg (fun _ => False) w8 wr)) (fun v1 _ => bL + M - (intOf v1).toNat)
      case atStart => exact ⟨bL, by omega, by omega, rfl, Chg.refl _ _⟩
      case round =>
        obtain ⟨i, hi0, hi, rfl, HCW⟩ := hrel
        have hii : (i : Int) ≤ (bL : Int) + (M : Int) := by omega
        have hii0 : (bL : Int) ≤ (i : Int) := by omega
        by_cases hlt : i < bL + M
        · have hd1 : decide ((i : Int) < (bL : Int) + (M : Int)) = true := by simp; omega
          have hd1' : decide (i < bL + M) = true := decide_eq_true hlt
          have hd1'' : decide ((i : Int) < ((bL + M : Nat) : Int)) = true := by simp; omega
          obtain ⟨j, hj⟩ : ∃ j, i = bL + j := ⟨i - bL, by omega⟩
          obtain ⟨q, hq⟩ : ∃ q, j % bL = q := ⟨_, rfl⟩
          have hqb : q < bL := by rw [← hq]; exact Nat.mod_lt _ (by omega)
          obtain ⟨x, hx⟩ : ∃ x, bs[q]? = some x := ⟨bs[q]'(by have := HBL.out; omega), List.getElem?_eq_getElem _⟩
          have hcx : cs[i]? = some x := by
            have hb9 := HBL.out
            have h9 := copy_round (bs := bs) (by omega) j M (by omega)
            rw [hb9, hq, hx] at h9
            rw [← HCS.out, hj, List.getElem?_append_right (by omega), hb9, Nat.add_sub_cancel_left]
            exact h9
          obtain ⟨bx, hbx, kb⟩ := row8_cell (row8_keep HR0.out (chg_then HC8.out HCW.out) (fun _ _ f => f)) hx
          have hco := ownsRow_keep HCO.out HCW.out (fun _ _ f => f)
          obtain ⟨gc, hgc⟩ : ∃ gc, ca = some ⟨gc, 0, none⟩ := by
            rcases hco.2 with ⟨h9, h8⟩ | ⟨g, cap, cur, h9, _⟩
            · omega
            · simp only [Value.slice.injEq] at h9
              exact ⟨g, h9.1⟩
          subst hgc
          have kc : wr.cell? ⟨gc, i, none⟩ = some (.int .u8 (x : Int)) := by
            rw [World.ownsRow.cellAt hco i (by omega)]
            simp only [ins, nums, List.getElem?_map, hcx, Option.map_some]
          have hsub : (i : Int) - (bL : Int) = (j : Int) := by omega
          have hqi : (q : Int) < (bL : Int) := by omega
          have hrem : Int.tmod (j : Int) (bL : Int) = (q : Int) := by
            rw [← hq]
            rw [Int.tmod_eq_emod_of_nonneg (by omega)]
            simp
          have hrem2 : (j : Int) % (bL : Int) = (q : Int) := by rw [← hq]; simp
          have hb0 : ((bL : Int) == 0) = false := by simp; omega
          clear hcx hx hco hj hq
          subst hbx
          go_wp2_with fail
          go_quiet (fail)
          have HCR : Hid (Chg (fun _ => False) w8 (wr.drewN nq)) := chg_then HCW.out (chg_drewN _ _)
          clear kb kc HCW
          generalize wr.drewN nq = wq at *
          go_wp2_with fail
          exact ⟨⟨i + 1, by omega, by omega, by go_num, HCR.out⟩, by simp [intOf]; omega⟩
        · have hd1 : decide ((i : Int) < (bL : Int) + (M : Int)) = false := by simp; omega
          have hd1' : decide (i < bL + M) = false := decide_eq_false hlt
          have hd1'' : decide ((i : Int) < ((bL + M : Nat) : Int)) = false := by simp; omega
          go_wp2
          go_ret
          exact ⟨rfl, chg_then HC8.out HCW.out⟩
end Go.Proofs.YtlnocjicmofjfaaDoor
