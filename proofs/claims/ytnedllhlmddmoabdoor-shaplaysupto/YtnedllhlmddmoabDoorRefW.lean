/- The document's own words of a block: the contract of words; of no statement by itself. -/
import Derived.Test.YtnedllhlmddmoabDoorRef
import Derived.Test.YtnedllhlmddmoabDoorJoined
import Derived.Deep.RegionLaw
namespace Go.Proofs.YtnedllhlmddmoabDoor
open Go.RowKit
set_option linter.unusedVariables false

/-- 'append' as one step of a region that draws its order. -/
theorem step_append_moved {P : Program} {ops : Array Oper} {o : Oper} {a : Act} {w : World} {K : Act → World → Prop} {Q : Exit → Act → World → Prop} {E : Prop} (hgd : o.guard = none) (s x : Operand) (t : TypeId)
    (ho : o.op = .call { callee := .builtin .append, args := #[s, x], argTypes := #[t, t] })
    (B : Nat) (e : TypeId) (i : TypeInfo) (z : Value) (size bytes : Nat) (ht : P.underlying t = some (.slice e)) (hi : P.info? e = some i) (hz : i.zero = some z)
    (hsize : i.size = size) (hby : i.bytes = bytes) (hzs : z.cells.size = size) (hsz : 0 < size)
    (v : Value) (n : Nat) (xs : List Value) (hs : a.eval s = v) (ad : Option Addr) (m c : Nat) (hx : a.eval x = .slice ad m c) (news : List Value)
    (hown : w.ownsRow B e size v n xs) (hsrc : From w ad m c size news) (h1 : ∀ u ∈ news, u.oneCell' = true)
    (h63 : n + m ≤ maxLen) (hbytes : (n + m) * bytes ≤ 140737488355328) (hB : B ≤ w.heap.size)
    (h : ∀ v' w', w'.ownsRow B e size v' (n + m) (xs ++ news) → w.grownBy w' v.ownBlock → Moved w v v' → K (a.put o.dst v') w') :
    if Region.wanted o (yielded ops a.tmps) = true then Oper.wp P o a w K Q else E := by
  have hw : Region.wanted o (yielded ops a.tmps) = true := by simp [Region.wanted, hgd]
  rw [if_pos hw]
  obtain ⟨v', w', hr, h2, h3, h4⟩ := run_append_moved (P := P) w B t o.type e i z size bytes ht hi hz hsize hby hzs hsz v n xs hown ad m c news hsrc h1 h63 hbytes hB
  unfold Oper.wp
  simp [execOp, ho, resolve, invoke, builtin, hs, hx, hr, Result.andThen]
  exact h v' w' h2 h3 h4

theorem info32 : (Tryd.prog.info? 44).map (fun i => (i.zero, i.size, i.bytes)) = some (some (.int .u32 0), 1, 4) := by kernel_rfl

theorem from_one (w : World) (x : Nat) : From (w.alloc (.cells #[.int .u32 (x : Int)] 44)) (some ⟨w.heap.size, 0, none⟩) 1 1 1 (wds [x]) := by
  refine ⟨rfl, .inr ⟨_, rfl, fun j u hu => ?_⟩⟩
  have hadd : (⟨w.heap.size, 0, none⟩ : Addr).add j = ⟨w.heap.size, j, none⟩ := by unfold Addr.add; split <;> simp_all
  rw [hadd, cell_of_row _ w.heap.size j _ _ _ (heap_alloc_last w _)]
  simpa [wds] using hu

theorem wds_append (a b : List Nat) : wds a ++ wds b = wds (a ++ b) := by simp [wds]

/-- The first i bytes of a word. -/
def acc (b : List Nat) (t : Nat) : Nat → Nat
  | 0 => 0
  | i + 1 => 256 * acc b t i + b.getD (4 * t + i) 0

theorem acc_four (b : List Nat) (t : Nat) : acc b t 4 = Sha.wd b t := by
  simp only [acc, Sha.wd, Nat.add_zero]
  omega

theorem acc_lt {b : List Nat} (hb : ∀ x ∈ b, x < 256) (t i : Nat) (hi : i < 4) : acc b t i < 16777216 := by
  have h0 := Sha.byte_getD hb (4 * t + 0)
  have h1 := Sha.byte_getD hb (4 * t + 1)
  have h2 := Sha.byte_getD hb (4 * t + 2)
  rcases i with _ | _ | _ | _ | i
  · simp [acc]
  · simp only [acc]; omega
  · simp only [acc]; omega
  · simp only [acc]; omega
  · omega

theorem own_some {w : World} {B : Nat} {e : TypeId} {v : Value} {n : Nat} {xs : List Value} (h : w.ownsRow B e 1 v n xs) (hn : 0 < n) : ∃ g cap, v = .slice (some ⟨g, 0, none⟩) n cap ∧ ∀ j u, xs[j]? = some u → w.cell? ⟨g, j, none⟩ = some u := by
  rcases h.2 with ⟨_, e⟩ | ⟨g, cap, _, rfl, _⟩
  · omega
  · refine ⟨g, cap, rfl, fun j u hu => ?_⟩
    have := h.cells (g := g) rfl j u hu
    have hadd : (⟨g, 0, none⟩ : Addr).add j = ⟨g, j, none⟩ := by unfold Addr.add; split <;> simp_all
    rw [hadd] at this
    exact this

theorem cell_chg {w w' : World} {p : Addr} {v : Value} (h : w.cell? p = some v) (hc : Chg (fun _ => False) w w') : w'.cell? p = some v := by
  rw [World.cell?_of_block (w := w) (hc.block _ (World.block_lt_of_cell? w _ h) (fun f => f))]
  exact h

set_option maxHeartbeats 8000000 in
set_option maxRecDepth 100000 in
theorem words_any (y : Addr) (c : Nat) (b : List Nat) (w0 : World) (hy : Row8 w0 (some y) 64 c (up b)) (hb : ∀ x ∈ b, x < 256) :
    Calls Tryd.prog 31 #[.slice (some y) 64 c] w0 fun e w0' => ∃ g cap, e = .returned (.slice (some ⟨g, 0, none⟩) 64 cap) ∧ (∀ k, k < 64 → w0'.cell? ⟨g, k, none⟩ = some (.int .u32 ((Sha.sched b 48).getD k 0 : Nat))) ∧ Chg (fun _ => False) w0 w0' := by
  obtain ⟨i0, hi, hz0, hz1, hz2⟩ := info_parts info32
  have hlb : b.length = 64 := by rw [← up_length]; exact hy.1
  have HY : Hid (∀ j u, ((up b).map (Value.int .u8))[j]? = some u → w0.cell? (y.add j) = some u) := by
    rcases hy.2 with ⟨e, _⟩ | ⟨x, e, hx⟩
    · cases e
    · cases e; exact hx
  have HB : Hid (∀ x ∈ b, x < 256) := hb
  clear hy hb
  go_enter Tryd.func31, Tryd.ntmps31
  go_wp2_with fail
  go_loopw [3, 4] (fun v i wr => ∃ t wc : Nat, ∃ wa : Option Addr, t ≤ 16 ∧ i = .int .i64 t ∧ v = .slice wa t wc ∧ wr.ownsRow w0.heap.size 44 1 (.slice wa t wc) t (wds (Sha.first b t)) ∧ Chg (fun _ => False) w0 wr) (fun _ i _ => 16 - (intOf i).toNat)
  case atStart => exact ⟨0, 0, none, by omega, rfl, rfl, World.ownsRow_nil w0 _ _ _, Chg.refl _ _⟩
  case round =>
    obtain ⟨t, wc, wa, ht, rfl, rfl, hown, hC⟩ := hrel
    by_cases hlt : t < 16
    · go_wp2_with fail
      go_loop [5, 6] (fun z i => ∃ k : Nat, k ≤ 4 ∧ i = .int .i64 k ∧ z = .int .u32 (acc b t k : Nat)) (fun _ i => 4 - (intOf i).toNat)
      case atStart => exact ⟨0, by omega, rfl, rfl⟩
      case round =>
        obtain ⟨k, hk, rfl, rfl⟩ := hrel
        by_cases hlt2 : k < 4
        · have cy : wr.cell? (y.add (4 * t + k)) = some (.int .u8 (b.getD (4 * t + k) 0 : Nat)) := by
            have h := HY.out (4 * t + k) (.int .u8 (b.getD (4 * t + k) 0 : Nat)) (by rw [up_byts]; exact byts_at b _ (by omega))
            rw [World.cell?_of_block (w := w0) (hC.block _ (World.block_lt_of_cell? w0 _ h) (fun f => f))]
            exact h
          have l1 := acc_lt HB.out t k hlt2
          have l2 := Sha.byte_getD HB.out (4 * t + k)
          have HA : Hid (acc b t (k + 1) = 256 * acc b t k + b.getD (4 * t + k) 0) := rfl
          have hix : (4 : Int) * (t : Int) + (k : Int) = ((4 * t + k : Nat) : Int) := by omega
          have hJ : 4 * t + k < 64 := by omega
          generalize acc b t k = p at *
          generalize b.getD (4 * t + k) 0 = q at *
          generalize 4 * t + k = J at *
          go_wp2
          go_round
          case rel => exact ⟨k + 1, by omega, by go_num, by rw [HA.out]; rfl⟩
          case measure => simp [intOf]; omega
        · rw [show k = 4 by omega, acc_four]
          have HF : Hid (Sha.first b (t + 1) = Sha.first b t ++ [Sha.wd b t]) := Sha.first_succ b t
          have hs1 := from_one wr (Sha.wd b t)
          have hB1 : w0.heap.size ≤ (wr.alloc (.cells #[.int .u32 (Sha.wd b t : Nat)] 44)).heap.size := by have := hC.size; simp; omega
          have hone := wds_ones [Sha.wd b t]
          generalize Sha.wd b t = v at *
          go_wp2_with (at_builtin; refine wpList_append_moved rfl _ _ 60 rfl w0.heap.size 44 i0 (.int .u32 0) 1 4 Tryd.underlying60 hi hz0 hz1 hz2 rfl (by decide) _ t (wds (Sha.first b t)) rfl (some ⟨wr.heap.size, 0, none⟩) 1 1 rfl (wds [v]) (hown.alloc _) hs1 hone (by unfold maxLen; omega) (by omega) hB1 ?_)
          intro v1 w1 ho1 hg1 _
          have HC1 : Hid (Chg (fun _ => False) w0 w1) := (hC.alloc _).grown hg1 (fun j e => .inr ((hown.lt j e).1))
          have HO : Hid (w1.ownsRow w0.heap.size 44 1 v1 (t + 1) (wds (Sha.first b (t + 1)))) := by
            show w1.ownsRow _ _ _ _ _ _
            rw [HF.out, ← wds_append]
            exact ho1
          clear ho1 hg1 hown hC hs1
          obtain ⟨g1, cap1, rfl, _⟩ := own_some HO.out (by omega)
          go_wp2
          go_roundw
          case rel => exact ⟨t + 1, cap1, some ⟨g1, 0, none⟩, by omega, by go_num, rfl, HO.out, HC1.out⟩
          case measure => simp [intOf]; omega
    · have hown0 : wr.ownsRow w0.heap.size 44 1 (.slice wa t wc) (16 + 0) (wds (Sha.sched b 0)) := by
        have e : t = 16 := by omega
        subst e
        exact hown
      have ht16 : t = 16 + 0 := by omega
      have HT16 : Hid (t = 16 + 0) := ht16
      clear hown ht16
      go_wp2_with fail
      go_loopw [3, 7] (fun v i ws => ∃ k n cap g : Nat, k ≤ 48 ∧ n = 16 + k ∧ i = .int .i64 ((k : Int) + 16) ∧ v = .slice (some ⟨g, 0, none⟩) n cap ∧ ws.ownsRow w0.heap.size 44 1 (.slice (some ⟨g, 0, none⟩) n cap) (16 + k) (wds (Sha.sched b k)) ∧ Chg (fun _ => False) w0 ws) (fun _ i _ => 64 - (intOf i).toNat)
      case atStart =>
        obtain ⟨g, cap, e, _⟩ := own_some hown0 (by omega)
        have e2 := e
        simp only [Value.slice.injEq] at e2
        rw [e2.1, e2.2.2] at hown0
        rw [e2.1, e2.2.2]
        exact ⟨0, t, cap, g, by omega, by have := HT16.out; omega, rfl, rfl, hown0, hC⟩
      case round =>
        clear hown0 hC HT16
        obtain ⟨k, n, cap, g, hk, hn, rfl, rfl, hown, hC⟩ := hrel
        have HN : Hid (n = 16 + k) := hn
        by_cases hlt2 : k < 48
        · have hcell : ∀ j, j < 16 + k → wr.cell? ⟨g, j, none⟩ = some (.int .u32 ((Sha.sched b k).getD j 0 : Nat)) := by
            intro j hj
            obtain ⟨g', cap', e, hc⟩ := own_some hown (by omega)
            simp only [Value.slice.injEq, Option.some.injEq, Addr.mk.injEq] at e
            rw [e.1.1]
            exact hc j _ (wds_at _ _ (by rw [Sha.sched_len]; exact hj))
          have a0 := hcell (k + 14) (by omega)
          have a1 := hcell (k + 9) (by omega)
          have a2 := hcell (k + 1) (by omega)
          have a3 := hcell k (by omega)
          have hwd := Sha.sched_wds HB.out k
          have l0 := hwd.getD (k + 14)
          have l1 := hwd.getD (k + 9)
          have l2 := hwd.getD (k + 1)
          have l3 := hwd.getD k
          have HNx : Hid (Sha.nxt (Sha.sched b k) (16 + k) = Sha.add (Sha.add (Sha.add (Sha.sg1 ((Sha.sched b k).getD (k + 14) 0)) ((Sha.sched b k).getD (k + 9) 0)) (Sha.sg0 ((Sha.sched b k).getD (k + 1) 0))) ((Sha.sched b k).getD k 0)) := by
            show _ = _
            unfold Sha.nxt
            rw [show 16 + k - 2 = k + 14 by omega, show 16 + k - 7 = k + 9 by omega, show 16 + k - 15 = k + 1 by omega, show 16 + k - 16 = k by omega]
          have HS : Hid (Sha.sched b (k + 1) = Sha.sched b k ++ [Sha.nxt (Sha.sched b k) (16 + k)]) := rfl
          generalize Sha.nxt (Sha.sched b k) (16 + k) = nx at *
          generalize (Sha.sched b k).getD (k + 14) 0 = x0 at *
          generalize (Sha.sched b k).getD (k + 9) 0 = x1 at *
          generalize (Sha.sched b k).getD (k + 1) 0 = x2 at *
          generalize (Sha.sched b k).getD k 0 = x3 at *
          have r0 := Sha.rotr_lt 17 l0
          have r1 := Sha.rotr_lt 19 l0
          have r2 := Sha.rotr_lt 7 l2
          have r3 := Sha.rotr_lt 18 l2
          have e0 := xor32 _ _ r0 r1
          have e1 : bits .xor .u32 ((Sha.rotr x0 17 ^^^ Sha.rotr x0 19 : Nat) : Int) ((x0 / 1024 : Nat) : Int) = ((Sha.sg1 x0 : Nat) : Int) := xor32 _ (x0 / 1024) (Sha.xor_lt r0 r1) (Sha.div_lt _ l0)
          have e2 := xor32 _ _ r2 r3
          have e3 : bits .xor .u32 ((Sha.rotr x2 7 ^^^ Sha.rotr x2 18 : Nat) : Int) ((x2 / 8 : Nat) : Int) = ((Sha.sg0 x2 : Nat) : Int) := xor32 _ (x2 / 8) (Sha.xor_lt r2 r3) (Sha.div_lt _ l2)
          have d0 : (x0 : Int) / 1024 = ((x0 / 1024 : Nat) : Int) := by simp
          have d1 : (x2 : Int) / 8 = ((x2 / 8 : Nat) : Int) := by simp
          have ld0 : x0 / 1024 < 4294967296 := Sha.div_lt _ l0
          have ld1 : x2 / 8 < 4294967296 := Sha.div_lt _ l2
          have lg1 := Sha.sg1_lt l0
          have lg0 := Sha.sg0_lt l2
          have ip1 : IntKind.i64.wrap ((k : Int) + 16 - 2) = (k : Int) + 14 := by simp [IntKind.wrap, IntKind.signed, IntKind.bits]; omega
          have ip2 : IntKind.i64.wrap ((k : Int) + 16 - 15) = (k : Int) + 1 := by simp [IntKind.wrap, IntKind.signed, IntKind.bits]; omega
          have hn1 : (k : Int) + 14 < (n : Int) := by omega
          have hn2 : (k : Int) + 1 < (n : Int) := by omega
          have c1 := fun w0 => turned_any x0 17 w0 l0 (by decide) (by decide)
          have c2 := fun w0 => turned_any x0 19 w0 l0 (by decide) (by decide)
          have c3 := fun w0 => turned_any x2 7 w0 l2 (by decide) (by decide)
          have c4 := fun w0 => turned_any x2 18 w0 l2 (by decide) (by decide)
          generalize Sha.rotr x0 17 = y0 at *
          generalize Sha.rotr x0 19 = y1 at *
          generalize Sha.rotr x2 7 = y2 at *
          generalize Sha.rotr x2 18 = y3 at *
          generalize y0 ^^^ y1 = y01 at *
          generalize y2 ^^^ y3 = y23 at *
          generalize x0 / 1024 = z0 at *
          generalize x2 / 8 = z2 at *
          generalize Sha.sg1 x0 = g1 at *
          generalize Sha.sg0 x2 = g0 at *
          clear hcell hwd hn
          have wz0 : IntKind.u32.wrap (z0 : Int) = (z0 : Int) := by rw [wrap32]; omega
          have wz2 : IntKind.u32.wrap (z2 : Int) = (z2 : Int) := by rw [wrap32]; omega
          go_wp2_with fail
          generalize decide ((k : Int) + 16 < 64) = dd at *
          refine wp_region_free (mk := fun u => #[_, _, _, _, _, _, _, _, u 8, _, _, _, _, _, _, _, _, _, _, _, _, _, _, _, _, _, _, _, _, _, _, _, _, _, _, _, _, u 37, u 38, u 39, u 40, u 41, u 42, u 43, u 44, u 45, u 46, u 47, u 48, u 49, u 50, u 51, u 52, u 53, u 54, u 55, u 56, u 57, _, _, _, _, _, _, _, _, _, _, _, _, _, _, _, _, _, _, _, _, _, _, _, _, _, _, _, _, _, _, _, _, _, _, _, _, _, _, _, _]) (F := fun slot vv ww => (look [(37, .val (.slice (some ⟨g, 0, none⟩) n cap)), (38, .val (.int .i64 ((k : Int) + 16))), (39, .val (.int .i64 ((k : Int) + 14))), (40, .val (.pointer (some ⟨g, k + 14, none⟩))), (41, .val (.int .u32 (x0 : Nat))), (42, .val (.int .u32 (y0 : Nat))), (43, .val (.slice (some ⟨g, 0, none⟩) n cap)), (44, .val (.int .i64 ((k : Int) + 16))), (45, .val (.int .i64 ((k : Int) + 14))), (46, .val (.pointer (some ⟨g, k + 14, none⟩))), (47, .val (.int .u32 (x0 : Nat))), (48, .val (.int .u32 (y1 : Nat))), (49, .val (.int .u32 (y01 : Nat))), (50, .val (.slice (some ⟨g, 0, none⟩) n cap)), (51, .val (.int .i64 ((k : Int) + 16))), (52, .val (.int .i64 ((k : Int) + 14))), (53, .val (.pointer (some ⟨g, k + 14, none⟩))), (54, .val (.int .u32 (x0 : Nat))), (55, .val (.int .u32 1024)), (56, .val (.int .u32 (z0 : Nat))), (57, .val (.int .u32 (g1 : Nat))), (8, .val (.int .u32 (g1 : Nat)))] slot).holds vv ww) (fun t => if t = 8 then u8 else if t = 37 then u37 else if t = 38 then u38 else if t = 39 then u39 else if t = 40 then u40 else if t = 41 then u41 else if t = 42 then u42 else if t = 43 then u43 else if t = 44 then u44 else if t = 45 then u45 else if t = 46 then u46 else if t = 47 then u47 else if t = 48 then u48 else if t = 49 then u49 else if t = 50 then u50 else if t = 51 then u51 else if t = 52 then u52 else if t = 53 then u53 else if t = 54 then u54 else if t = 55 then u55 else if t = 56 then u56 else if t = 57 then u57 else undef) rfl (by kernel_rfl) (by kernel_rfl) ?_ (fun _ v w w' hc h => Fact.stays _ v w w' hc h) ?_ ?_
          · repeat (refine ⟨⟨_, rfl, fun _ _ => rfl⟩, ?_⟩)
            exact trivial
          · refine ⟨?_, ?_, ?_, ?_, ?_, ?_, ?_, ?_, ?_, ?_, ?_, ?_, ?_, ?_, ?_, ?_, ?_, ?_, ?_, ?_, ?_, ?_, trivial⟩
            · intro u w hc hd K hK -- 37
              clear hd
              go_simp
              exact hK.out (.slice (some ⟨g, 0, none⟩) n cap) w (Chg.refl _ _) rfl
            · intro u w hc hd K hK -- 38
              clear hd
              go_simp
              exact hK.out (.int .i64 ((k : Int) + 16)) w (Chg.refl _ _) rfl
            · intro u w hc hd K hK -- 39
              have h38 : (Fact.val (.int .i64 ((k : Int) + 16))).holds (u 38) w := hd.get 1 (by kernel_rfl)
              simp only [Fact.holds] at h38
              clear hd
              simp only [h38] at hK
              go_simp
              exact hK.out (.int .i64 ((k : Int) + 14)) w (Chg.refl _ _) rfl
            · intro u w hc hd K hK -- 40
              have h37 : (Fact.val (.slice (some ⟨g, 0, none⟩) n cap)).holds (u 37) w := hd.get 0 (by kernel_rfl)
              simp only [Fact.holds] at h37
              have h39 : (Fact.val (.int .i64 ((k : Int) + 14))).holds (u 39) w := hd.get 2 (by kernel_rfl)
              simp only [Fact.holds] at h39
              clear hd
              simp only [h37, h39] at hK
              go_simp
              exact hK.out (.pointer (some ⟨g, k + 14, none⟩)) w (Chg.refl _ _) rfl
            · intro u w hc hd K hK -- 41
              have h40 : (Fact.val (.pointer (some ⟨g, k + 14, none⟩))).holds (u 40) w := hd.get 3 (by kernel_rfl)
              simp only [Fact.holds] at h40
              clear hd
              simp only [h40] at hK
              have hcell := cell_chg a0 hc
              go_simp
              exact hK.out _ _ (Chg.refl _ _) rfl
            · intro u w hc hd K hK -- 42
              have h41 : (Fact.val (.int .u32 (x0 : Nat))).holds (u 41) w := hd.get 4 (by kernel_rfl)
              simp only [Fact.holds] at h41
              clear hd
              simp only [h41] at hK
              go_simp
              go_at_call 37
              refine (c1 w).mono ?_
              rintro e w1 ⟨rfl, cc⟩
              exact hK.out _ _ (cc) rfl
            · intro u w hc hd K hK -- 43
              clear hd
              go_simp
              exact hK.out (.slice (some ⟨g, 0, none⟩) n cap) w (Chg.refl _ _) rfl
            · intro u w hc hd K hK -- 44
              clear hd
              go_simp
              exact hK.out (.int .i64 ((k : Int) + 16)) w (Chg.refl _ _) rfl
            · intro u w hc hd K hK -- 45
              have h44 : (Fact.val (.int .i64 ((k : Int) + 16))).holds (u 44) w := hd.get 7 (by kernel_rfl)
              simp only [Fact.holds] at h44
              clear hd
              simp only [h44] at hK
              go_simp
              exact hK.out (.int .i64 ((k : Int) + 14)) w (Chg.refl _ _) rfl
            · intro u w hc hd K hK -- 46
              have h43 : (Fact.val (.slice (some ⟨g, 0, none⟩) n cap)).holds (u 43) w := hd.get 6 (by kernel_rfl)
              simp only [Fact.holds] at h43
              have h45 : (Fact.val (.int .i64 ((k : Int) + 14))).holds (u 45) w := hd.get 8 (by kernel_rfl)
              simp only [Fact.holds] at h45
              clear hd
              simp only [h43, h45] at hK
              go_simp
              exact hK.out (.pointer (some ⟨g, k + 14, none⟩)) w (Chg.refl _ _) rfl
            · intro u w hc hd K hK -- 47
              have h46 : (Fact.val (.pointer (some ⟨g, k + 14, none⟩))).holds (u 46) w := hd.get 9 (by kernel_rfl)
              simp only [Fact.holds] at h46
              clear hd
              simp only [h46] at hK
              have hcell := cell_chg a0 hc
              go_simp
              exact hK.out _ _ (Chg.refl _ _) rfl
            · intro u w hc hd K hK -- 48
              have h47 : (Fact.val (.int .u32 (x0 : Nat))).holds (u 47) w := hd.get 10 (by kernel_rfl)
              simp only [Fact.holds] at h47
              clear hd
              simp only [h47] at hK
              go_simp
              go_at_call 37
              refine (c2 w).mono ?_
              rintro e w1 ⟨rfl, cc⟩
              exact hK.out _ _ (cc) rfl
            · intro u w hc hd K hK -- 49
              have h42 : (Fact.val (.int .u32 (y0 : Nat))).holds (u 42) w := hd.get 5 (by kernel_rfl)
              simp only [Fact.holds] at h42
              have h48 : (Fact.val (.int .u32 (y1 : Nat))).holds (u 48) w := hd.get 11 (by kernel_rfl)
              simp only [Fact.holds] at h48
              clear hd
              simp only [h42, h48] at hK
              go_simp
              exact hK.out (.int .u32 (y01 : Nat)) w (Chg.refl _ _) rfl
            · intro u w hc hd K hK -- 50
              clear hd
              go_simp
              exact hK.out (.slice (some ⟨g, 0, none⟩) n cap) w (Chg.refl _ _) rfl
            · intro u w hc hd K hK -- 51
              clear hd
              go_simp
              exact hK.out (.int .i64 ((k : Int) + 16)) w (Chg.refl _ _) rfl
            · intro u w hc hd K hK -- 52
              have h51 : (Fact.val (.int .i64 ((k : Int) + 16))).holds (u 51) w := hd.get 14 (by kernel_rfl)
              simp only [Fact.holds] at h51
              clear hd
              simp only [h51] at hK
              go_simp
              exact hK.out (.int .i64 ((k : Int) + 14)) w (Chg.refl _ _) rfl
            · intro u w hc hd K hK -- 53
              have h50 : (Fact.val (.slice (some ⟨g, 0, none⟩) n cap)).holds (u 50) w := hd.get 13 (by kernel_rfl)
              simp only [Fact.holds] at h50
              have h52 : (Fact.val (.int .i64 ((k : Int) + 14))).holds (u 52) w := hd.get 15 (by kernel_rfl)
              simp only [Fact.holds] at h52
              clear hd
              simp only [h50, h52] at hK
              go_simp
              exact hK.out (.pointer (some ⟨g, k + 14, none⟩)) w (Chg.refl _ _) rfl
            · intro u w hc hd K hK -- 54
              have h53 : (Fact.val (.pointer (some ⟨g, k + 14, none⟩))).holds (u 53) w := hd.get 16 (by kernel_rfl)
              simp only [Fact.holds] at h53
              clear hd
              simp only [h53] at hK
              have hcell := cell_chg a0 hc
              go_simp
              exact hK.out _ _ (Chg.refl _ _) rfl
            · intro u w hc hd K hK -- 55
              clear hd
              go_simp
              go_at_call 24
              refine (power_any 10 w (by decide)).mono ?_
              rintro e w1 ⟨rfl, rfl⟩
              exact hK.out _ _ (Chg.refl _ _) rfl
            · intro u w hc hd K hK -- 56
              have h54 : (Fact.val (.int .u32 (x0 : Nat))).holds (u 54) w := hd.get 17 (by kernel_rfl)
              simp only [Fact.holds] at h54
              have h55 : (Fact.val (.int .u32 1024)).holds (u 55) w := hd.get 18 (by kernel_rfl)
              simp only [Fact.holds] at h55
              clear hd
              simp only [h54, h55] at hK
              go_simp
              exact hK.out (.int .u32 (z0 : Nat)) w (Chg.refl _ _) rfl
            · intro u w hc hd K hK -- 57
              have h49 : (Fact.val (.int .u32 (y01 : Nat))).holds (u 49) w := hd.get 12 (by kernel_rfl)
              simp only [Fact.holds] at h49
              have h56 : (Fact.val (.int .u32 (z0 : Nat))).holds (u 56) w := hd.get 19 (by kernel_rfl)
              simp only [Fact.holds] at h56
              clear hd
              simp only [h49, h56] at hK
              go_simp
              exact hK.out (.int .u32 (g1 : Nat)) w (Chg.refl _ _) rfl
            · intro u w hc hd K hK -- 8
              have h57 : (Fact.val (.int .u32 (g1 : Nat))).holds (u 57) w := hd.get 20 (by kernel_rfl)
              simp only [Fact.holds] at h57
              clear hd
              simp only [h57] at hK
              go_simp
              exact hK.out (.int .u32 (g1 : Nat)) w (Chg.refl _ _) rfl
          · intro u w hc hA
            have b8 : u 8 = _ := hA.at 8 (by kernel_rfl)
            clear hA
            rw [b8]
            clear b8
            have C14 := hc
            have a2b := cell_chg a2 C14
            go_wp2_with fail
            refine wp_region_free (mk := fun u => #[_, _, _, _, _, _, _, _, _, u 9, _, _, _, _, _, _, _, _, _, _, _, _, _, _, _, _, _, _, _, _, _, _, _, _, _, _, _, _, _, _, _, _, _, _, _, _, _, _, _, _, _, _, _, _, _, _, _, _, u 58, u 59, u 60, u 61, u 62, u 63, u 64, u 65, u 66, u 67, u 68, u 69, u 70, u 71, u 72, u 73, u 74, u 75, u 76, u 77, u 78, _, _, _, _, _, _, _, _, _, _, _, _, _, _, _, _, _, _, _]) (F := fun slot vv ww => (look [(58, .val (.slice (some ⟨g, 0, none⟩) n cap)), (59, .val (.int .i64 ((k : Int) + 16))), (60, .val (.int .i64 ((k : Int) + 1))), (61, .val (.pointer (some ⟨g, k + 1, none⟩))), (62, .val (.int .u32 (x2 : Nat))), (63, .val (.int .u32 (y2 : Nat))), (64, .val (.slice (some ⟨g, 0, none⟩) n cap)), (65, .val (.int .i64 ((k : Int) + 16))), (66, .val (.int .i64 ((k : Int) + 1))), (67, .val (.pointer (some ⟨g, k + 1, none⟩))), (68, .val (.int .u32 (x2 : Nat))), (69, .val (.int .u32 (y3 : Nat))), (70, .val (.int .u32 (y23 : Nat))), (71, .val (.slice (some ⟨g, 0, none⟩) n cap)), (72, .val (.int .i64 ((k : Int) + 16))), (73, .val (.int .i64 ((k : Int) + 1))), (74, .val (.pointer (some ⟨g, k + 1, none⟩))), (75, .val (.int .u32 (x2 : Nat))), (76, .val (.int .u32 8)), (77, .val (.int .u32 (z2 : Nat))), (78, .val (.int .u32 (g0 : Nat))), (9, .val (.int .u32 (g0 : Nat)))] slot).holds vv ww) (fun t => if t = 9 then u9 else if t = 58 then u58 else if t = 59 then u59 else if t = 60 then u60 else if t = 61 then u61 else if t = 62 then u62 else if t = 63 then u63 else if t = 64 then u64 else if t = 65 then u65 else if t = 66 then u66 else if t = 67 then u67 else if t = 68 then u68 else if t = 69 then u69 else if t = 70 then u70 else if t = 71 then u71 else if t = 72 then u72 else if t = 73 then u73 else if t = 74 then u74 else if t = 75 then u75 else if t = 76 then u76 else if t = 77 then u77 else if t = 78 then u78 else undef) rfl (by kernel_rfl) (by kernel_rfl) ?_ (fun _ v w w' hc h => Fact.stays _ v w w' hc h) ?_ ?_
            · repeat (refine ⟨⟨_, rfl, fun _ _ => rfl⟩, ?_⟩)
              exact trivial
            · refine ⟨?_, ?_, ?_, ?_, ?_, ?_, ?_, ?_, ?_, ?_, ?_, ?_, ?_, ?_, ?_, ?_, ?_, ?_, ?_, ?_, ?_, ?_, trivial⟩
              · intro u w hc hd K hK -- 58
                clear hd
                go_simp
                exact hK.out (.slice (some ⟨g, 0, none⟩) n cap) w (Chg.refl _ _) rfl
              · intro u w hc hd K hK -- 59
                clear hd
                go_simp
                exact hK.out (.int .i64 ((k : Int) + 16)) w (Chg.refl _ _) rfl
              · intro u w hc hd K hK -- 60
                have h59 : (Fact.val (.int .i64 ((k : Int) + 16))).holds (u 59) w := hd.get 1 (by kernel_rfl)
                simp only [Fact.holds] at h59
                clear hd
                simp only [h59] at hK
                go_simp
                exact hK.out (.int .i64 ((k : Int) + 1)) w (Chg.refl _ _) rfl
              · intro u w hc hd K hK -- 61
                have h58 : (Fact.val (.slice (some ⟨g, 0, none⟩) n cap)).holds (u 58) w := hd.get 0 (by kernel_rfl)
                simp only [Fact.holds] at h58
                have h60 : (Fact.val (.int .i64 ((k : Int) + 1))).holds (u 60) w := hd.get 2 (by kernel_rfl)
                simp only [Fact.holds] at h60
                clear hd
                simp only [h58, h60] at hK
                go_simp
                exact hK.out (.pointer (some ⟨g, k + 1, none⟩)) w (Chg.refl _ _) rfl
              · intro u w hc hd K hK -- 62
                have h61 : (Fact.val (.pointer (some ⟨g, k + 1, none⟩))).holds (u 61) w := hd.get 3 (by kernel_rfl)
                simp only [Fact.holds] at h61
                clear hd
                simp only [h61] at hK
                have hcell := cell_chg a2b hc
                go_simp
                exact hK.out _ _ (Chg.refl _ _) rfl
              · intro u w hc hd K hK -- 63
                have h62 : (Fact.val (.int .u32 (x2 : Nat))).holds (u 62) w := hd.get 4 (by kernel_rfl)
                simp only [Fact.holds] at h62
                clear hd
                simp only [h62] at hK
                go_simp
                go_at_call 37
                refine (c3 w).mono ?_
                rintro e w1 ⟨rfl, cc⟩
                exact hK.out _ _ (cc) rfl
              · intro u w hc hd K hK -- 64
                clear hd
                go_simp
                exact hK.out (.slice (some ⟨g, 0, none⟩) n cap) w (Chg.refl _ _) rfl
              · intro u w hc hd K hK -- 65
                clear hd
                go_simp
                exact hK.out (.int .i64 ((k : Int) + 16)) w (Chg.refl _ _) rfl
              · intro u w hc hd K hK -- 66
                have h65 : (Fact.val (.int .i64 ((k : Int) + 16))).holds (u 65) w := hd.get 7 (by kernel_rfl)
                simp only [Fact.holds] at h65
                clear hd
                simp only [h65] at hK
                go_simp
                exact hK.out (.int .i64 ((k : Int) + 1)) w (Chg.refl _ _) rfl
              · intro u w hc hd K hK -- 67
                have h64 : (Fact.val (.slice (some ⟨g, 0, none⟩) n cap)).holds (u 64) w := hd.get 6 (by kernel_rfl)
                simp only [Fact.holds] at h64
                have h66 : (Fact.val (.int .i64 ((k : Int) + 1))).holds (u 66) w := hd.get 8 (by kernel_rfl)
                simp only [Fact.holds] at h66
                clear hd
                simp only [h64, h66] at hK
                go_simp
                exact hK.out (.pointer (some ⟨g, k + 1, none⟩)) w (Chg.refl _ _) rfl
              · intro u w hc hd K hK -- 68
                have h67 : (Fact.val (.pointer (some ⟨g, k + 1, none⟩))).holds (u 67) w := hd.get 9 (by kernel_rfl)
                simp only [Fact.holds] at h67
                clear hd
                simp only [h67] at hK
                have hcell := cell_chg a2b hc
                go_simp
                exact hK.out _ _ (Chg.refl _ _) rfl
              · intro u w hc hd K hK -- 69
                have h68 : (Fact.val (.int .u32 (x2 : Nat))).holds (u 68) w := hd.get 10 (by kernel_rfl)
                simp only [Fact.holds] at h68
                clear hd
                simp only [h68] at hK
                go_simp
                go_at_call 37
                refine (c4 w).mono ?_
                rintro e w1 ⟨rfl, cc⟩
                exact hK.out _ _ (cc) rfl
              · intro u w hc hd K hK -- 70
                have h63 : (Fact.val (.int .u32 (y2 : Nat))).holds (u 63) w := hd.get 5 (by kernel_rfl)
                simp only [Fact.holds] at h63
                have h69 : (Fact.val (.int .u32 (y3 : Nat))).holds (u 69) w := hd.get 11 (by kernel_rfl)
                simp only [Fact.holds] at h69
                clear hd
                simp only [h63, h69] at hK
                go_simp
                exact hK.out (.int .u32 (y23 : Nat)) w (Chg.refl _ _) rfl
              · intro u w hc hd K hK -- 71
                clear hd
                go_simp
                exact hK.out (.slice (some ⟨g, 0, none⟩) n cap) w (Chg.refl _ _) rfl
              · intro u w hc hd K hK -- 72
                clear hd
                go_simp
                exact hK.out (.int .i64 ((k : Int) + 16)) w (Chg.refl _ _) rfl
              · intro u w hc hd K hK -- 73
                have h72 : (Fact.val (.int .i64 ((k : Int) + 16))).holds (u 72) w := hd.get 14 (by kernel_rfl)
                simp only [Fact.holds] at h72
                clear hd
                simp only [h72] at hK
                go_simp
                exact hK.out (.int .i64 ((k : Int) + 1)) w (Chg.refl _ _) rfl
              · intro u w hc hd K hK -- 74
                have h71 : (Fact.val (.slice (some ⟨g, 0, none⟩) n cap)).holds (u 71) w := hd.get 13 (by kernel_rfl)
                simp only [Fact.holds] at h71
                have h73 : (Fact.val (.int .i64 ((k : Int) + 1))).holds (u 73) w := hd.get 15 (by kernel_rfl)
                simp only [Fact.holds] at h73
                clear hd
                simp only [h71, h73] at hK
                go_simp
                exact hK.out (.pointer (some ⟨g, k + 1, none⟩)) w (Chg.refl _ _) rfl
              · intro u w hc hd K hK -- 75
                have h74 : (Fact.val (.pointer (some ⟨g, k + 1, none⟩))).holds (u 74) w := hd.get 16 (by kernel_rfl)
                simp only [Fact.holds] at h74
                clear hd
                simp only [h74] at hK
                have hcell := cell_chg a2b hc
                go_simp
                exact hK.out _ _ (Chg.refl _ _) rfl
              · intro u w hc hd K hK -- 76
                clear hd
                go_simp
                go_at_call 24
                refine (power_any 3 w (by decide)).mono ?_
                rintro e w1 ⟨rfl, rfl⟩
                exact hK.out _ _ (Chg.refl _ _) rfl
              · intro u w hc hd K hK -- 77
                have h75 : (Fact.val (.int .u32 (x2 : Nat))).holds (u 75) w := hd.get 17 (by kernel_rfl)
                simp only [Fact.holds] at h75
                have h76 : (Fact.val (.int .u32 8)).holds (u 76) w := hd.get 18 (by kernel_rfl)
                simp only [Fact.holds] at h76
                clear hd
                simp only [h75, h76] at hK
                go_simp
                exact hK.out (.int .u32 (z2 : Nat)) w (Chg.refl _ _) rfl
              · intro u w hc hd K hK -- 78
                have h70 : (Fact.val (.int .u32 (y23 : Nat))).holds (u 70) w := hd.get 12 (by kernel_rfl)
                simp only [Fact.holds] at h70
                have h77 : (Fact.val (.int .u32 (z2 : Nat))).holds (u 77) w := hd.get 19 (by kernel_rfl)
                simp only [Fact.holds] at h77
                clear hd
                simp only [h70, h77] at hK
                go_simp
                exact hK.out (.int .u32 (g0 : Nat)) w (Chg.refl _ _) rfl
              · intro u w hc hd K hK -- 9
                have h78 : (Fact.val (.int .u32 (g0 : Nat))).holds (u 78) w := hd.get 20 (by kernel_rfl)
                simp only [Fact.holds] at h78
                clear hd
                simp only [h78] at hK
                go_simp
                exact hK.out (.int .u32 (g0 : Nat)) w (Chg.refl _ _) rfl
            · intro u w hc hA
              have b9 : u 9 = _ := hA.at 9 (by kernel_rfl)
              clear hA
              have C15 := chg_then C14 hc
              have a1c := cell_chg a1 C15
              have a3c := cell_chg a3 C15
              have ho := ownsRow_keep hown C15 (fun _ _ f => f)
              have hC5 := chg_then hC C15
              have hg0 : w0.heap.size ≤ g := (hown.lt g rfl).1
              clear a0 a1 a2 a2b a3 c1 c2 c3 c4 e0 e1 e2 e3 C14 C15 hown hc hC wz0 wz2 d0 d1
              rw [b9]
              clear b9
              have p0 := add32 g1 x1
              have q0 := Sha.add_lt g1 x1
              have HA0 : Hid (nx = Sha.add (Sha.add (Sha.add g1 x1) g0) x3) := HNx.out
              generalize Sha.add g1 x1 = z1 at *
              have p1 := add32 z1 g0
              have q1 := Sha.add_lt z1 g0
              generalize Sha.add z1 g0 = z2_ at *
              have p2 := add32 z2_ x3
              have q2 := Sha.add_lt z2_ x3
              rw [← HA0.out] at p2 q2
              clear HA0 HNx
              have hs1 := from_one w.drew nx
              have hB1 : w0.heap.size ≤ (w.drew.alloc (.cells #[.int .u32 (nx : Nat)] 44)).heap.size := by have := hC5.size; simp; omega
              have ip7 : IntKind.i64.wrap ((k : Int) + 16 - 7) = (k : Int) + 9 := by simp [IntKind.wrap, IntKind.signed, IntKind.bits]; omega
              have ip7b : IntKind.i64.wrap ((k : Int) + 9) = (k : Int) + 9 := by simp [IntKind.wrap, IntKind.signed, IntKind.bits]; omega
              have ip16 : IntKind.i64.wrap ((k : Int) + 16 - 16) = (k : Int) := by simp [IntKind.wrap, IntKind.signed, IntKind.bits]; omega
              have ip16b : IntKind.i64.wrap (k : Int) = (k : Int) := by simp [IntKind.wrap, IntKind.signed, IntKind.bits]; omega
              have hk9 : (0 : Int) ≤ (k : Int) + 9 := by omega
              have ht9 : ((k : Int) + 9).toNat = k + 9 := by omega
              have hn3 : (k : Int) + 9 < (n : Int) := by have := HN.out; omega
              have hn4 : (k : Int) < (n : Int) := by have := HN.out; omega
              go_wp2_with fail
              go_region_law (refine step_append_moved rfl (.tmp 79) (.tmp 95) 60 rfl w0.heap.size 44 i0 (.int .u32 0) 1 4 Tryd.underlying60 hi hz0 hz1 hz2 rfl (by decide) _ (16 + k) (wds (Sha.sched b k)) rfl (some ⟨w.heap.size, 0, none⟩) 1 1 rfl (wds [nx]) ((show w.drew.ownsRow w0.heap.size 44 1 (.slice (some ⟨g, 0, none⟩) n cap) (16 + k) (wds (Sha.sched b k)) from ho).alloc _) hs1 (wds_ones _) (by unfold maxLen; omega) (by omega) hB1 ?_; intro v1 w1 ho1 hg1 _)
              all_goals
                have HC1 : Hid (Chg (fun _ => False) w0 w1) := ((hC5.drew).alloc _).grown hg1 (fun j e => .inr ((ho.lt j e).1))
                have HO : Hid (w1.ownsRow w0.heap.size 44 1 v1 (16 + (k + 1)) (wds (Sha.sched b (k + 1)))) := by
                  show w1.ownsRow _ _ _ _ _ _
                  rw [HS.out, ← wds_append]
                  exact ho1
                clear ho1 hg1 ho hC5 hs1
                obtain ⟨g5, cap5, rfl, _⟩ := own_some HO.out (by omega)
                go_simp
                go_wp2
                go_roundw
                case rel => exact ⟨k + 1, 16 + (k + 1), cap5, g5, by omega, rfl, by go_num, rfl, HO.out, HC1.out⟩
                case measure => simp [intOf]; omega
        · have e48 : k = 48 := by omega
          have e64 : n = 64 := by omega
          have hfin : ∀ j, j < 64 → wr.cell? ⟨g, j, none⟩ = some (.int .u32 ((Sha.sched b 48).getD j 0 : Nat)) := by
            intro j hj
            obtain ⟨g', cap', e, hc⟩ := own_some hown (by omega)
            simp only [Value.slice.injEq, Option.some.injEq, Addr.mk.injEq] at e
            rw [e48] at hc
            rw [e.1.1]
            exact hc j _ (wds_at _ _ (by rw [Sha.sched_len]; omega))
          have HF : Hid (∀ j, j < 64 → wr.cell? ⟨g, j, none⟩ = some (.int .u32 ((Sha.sched b 48).getD j 0 : Nat))) := hfin
          have HE : Hid (n = 64) := e64
          clear hfin hown e48 e64 hn
          go_wp2
          go_ret
          exact ⟨g, cap, by rw [← HE.out]; rfl, HF.out, hC⟩
end Go.Proofs.YtnedllhlmddmoabDoor
