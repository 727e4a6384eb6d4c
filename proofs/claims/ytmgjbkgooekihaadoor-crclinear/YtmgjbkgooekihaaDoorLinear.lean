/- CrcLinear holds: for every three lists of bytes handed to the statement's function the call returns true and the arguments read afterwards as they did; the two tables are as the program's text lays them. -/
import Derived.Test.YtmgjbkgooekihaaDoorStr
import Derived.Test.YtmgjbkgooekihaaDoorFacts
import Derived.Test.YtmgjbkgooekihaaDoorCards
import Derived.Test.YtmgjbkgooekihaaDoorTie
import Derived.SevenTiedAt
import Derived.Test.YtmgjbkgooekihaaDoorBurst
namespace Go.Proofs.YtmgjbkgooekihaaDoor.crcLinear
open Go.ChangeShapes Go.WideShapes Go.ChangeAt Go.RowKit
set_option linter.unusedVariables false

theorem one (xs : List Nat) : [xs].flatten = xs := by simp

theorem fill_set (D : List Nat) (N k : Nat) (hk : k < D.length) (hD : D.length = N) : (D.take k ++ List.replicate (N - k) 0).set k D[k] = D.take (k + 1) ++ List.replicate (N - (k + 1)) 0 := by
  rw [List.set_append_right _ _ (by rw [List.length_take]; exact Nat.min_le_left _ _), List.length_take, Nat.min_eq_left (by omega), Nat.sub_self, show N - k = (N - (k + 1)) + 1 by omega, List.replicate_succ, List.set_cons_zero, List.take_succ_eq_append_getElem hk, List.append_assoc, List.singleton_append]

theorem fill_get (D : List Nat) (N k : Nat) (hk : k < N) (hD : D.length = N) : (up (D.take k ++ List.replicate (N - k) 0))[k]? = some 0 := by
  have e : (D.take k).length = k := by rw [List.length_take]; omega
  have h : (D.take k ++ List.replicate (N - k) 0)[k]? = some 0 := by
    rw [List.getElem?_append_right (by omega), e, Nat.sub_self, show N - k = (N - (k + 1)) + 1 by omega, List.replicate_succ]
    rfl
  rw [up, List.getElem?_map, h]
  rfl

theorem own_of_blk {w : World} {B q n : Nat} {ys : List Int} (h : w.heap[q]? = some (.cells (cells8 ys).toArray 5 (0, 0))) (hB : B ≤ q) (hn : ys.length = n) (hm : n ≤ 140737488355328) : w.ownsRow B 5 1 (.slice (some ⟨q, 0, none⟩) n n) n (cells8 ys) := by
  refine ⟨by simp [cells8, hn], .inr ⟨q, n, (cells8 ys).toArray, rfl, hB, h, Nat.le_refl _, by unfold maxLen; omega, by simp [cells8, hn], ?_⟩⟩
  rw [Nat.mul_one, List.take_of_length_le (by simp [cells8, hn])]

/-- The three lists' bits joined. -/
def mix (x y z : List Nat) (N : Nat) : List Nat := diff (diff (x.take N) (y.take N)) (z.take N)

theorem mix_length {x y z : List Nat} {N : Nat} (hx : N ≤ x.length) (hy : N ≤ y.length) (hz : N ≤ z.length) : (mix x y z N).length = N := by simp [mix, diff]; omega

theorem mix_at {x y z : List Nat} {N k : Nat} (hx : N ≤ x.length) (hy : N ≤ y.length) (hz : N ≤ z.length) (hk : k < N) (h : k < (mix x y z N).length) : (mix x y z N)[k] = (x[k]'(by omega) ^^^ y[k]'(by omega)) ^^^ z[k]'(by omega) := by
  simp [mix, diff]

theorem mix_byt {x y z : List Nat} {N : Nat} (hx : Byt x) (hy : Byt y) (hz : Byt z) : Byt (mix x y z N) := diff_byt (diff_byt (hx.take N) (hy.take N)) (hz.take N)

theorem sum32 {x y z : List Nat} {N : Nat} (hx : N ≤ x.length) (hy : N ≤ y.length) (hz : N ≤ z.length) : Crc.more Crc.P32 32 0 (mix x y z N) = Crc.more Crc.P32 32 0 (x.take N) ^^^ Crc.more Crc.P32 32 0 (y.take N) ^^^ Crc.more Crc.P32 32 0 (z.take N) :=
  Crc.more_linear Crc.P32 32 (x.take N) (y.take N) (z.take N) (by simp; omega) (by simp; omega)
theorem sum64 {x y z : List Nat} {N : Nat} (hx : N ≤ x.length) (hy : N ≤ y.length) (hz : N ≤ z.length) : Crc.more Crc.P64 64 0 (mix x y z N) = Crc.more Crc.P64 64 0 (x.take N) ^^^ Crc.more Crc.P64 64 0 (y.take N) ^^^ Crc.more Crc.P64 64 0 (z.take N) :=
  Crc.more_linear Crc.P64 64 (x.take N) (y.take N) (z.take N) (by simp; omega) (by simp; omega)

theorem cell_some {w : World} {a : Option Addr} {m c : Nat} {ns : List Nat} (h : Row8 w a m c (up ns)) (k : Nat) (hk : k < m) : ∃ x, a = some x := by
  rcases h.2 with ⟨_, e, _⟩ | ⟨x, e, _⟩
  · omega
  · exact ⟨x, e⟩

theorem cell_at {w : World} {x : Addr} {m c : Nat} {ns : List Nat} (h : Row8 w (some x) m c (up ns)) (k : Nat) (hk : k < ns.length) : w.cell? (x.add k) = some (.int .u8 (ns[k] : Nat)) := by
  rcases h.2 with ⟨e, _⟩ | ⟨y, e, hy⟩
  · cases e
  · cases e
    exact cellN hy k hk

set_option maxHeartbeats 8000000 in
set_option maxRecDepth 100000 in
theorem walk1 (a b d : Option Addr) (l0 l1 l2 c0 c1 c2 : Nat) (xs ys zs : List Nat) (w : World) (hT : Tab w) (hx : Row8 w a l0 c0 (up xs)) (hy : Row8 w b l1 c1 (up ys)) (hz : Row8 w d l2 c2 (up zs)) (bx : Byt xs) (bY : Byt ys) (bz : Byt zs)
    (n0 : l0 ≤ 140737488351232) (n1 : l1 ≤ 140737488351232) (n2 : l2 ≤ 140737488351232) (m0 : l0 ≤ c0) (m1 : l1 ≤ c1) (m2 : l2 ≤ c2) (h1 : l1 < l0) (h2 : l2 < l1) :
    Calls Tryd.prog 3 #[.slice a l0 c0, .slice b l1 c1, .slice d l2 c2] w fun e w' => e = .returned (.bool true) ∧ Chg (fun _ => False) w w' := by
  obtain ⟨i0, hi, hz0, hz1, hz2⟩ := info_parts info5
  have lx : xs.length = l0 := by rw [← up_length]; exact hx.1
  have ly : ys.length = l1 := by rw [← up_length]; exact hy.1
  have lz : zs.length = l2 := by rw [← up_length]; exact hz.1
  have e32 := sum32 (x := xs) (y := ys) (z := zs) (N := l2) (by omega) (by omega) (by omega)
  have e64 := sum64 (x := xs) (y := ys) (z := zs) (N := l2) (by omega) (by omega) (by omega)
  have lm := mix_length (x := xs) (y := ys) (z := zs) (N := l2) (by omega) (by omega) (by omega)
  have hD := mix_byt (N := l2) bx bY bz
  have k1 := more32_lt (s := 0) (bx.take l2) (by decide)
  have k2 := more32_lt (s := 0) (bY.take l2) (by decide)
  have k3 := more32_lt (s := 0) (bz.take l2) (by decide)
  have k4 := more64_lt (s := 0) (bx.take l2) (by decide)
  have k5 := more64_lt (s := 0) (bY.take l2) (by decide)
  have k6 := more64_lt (s := 0) (bz.take l2) (by decide)
  have o1 := own_of_blk (heap_alloc_last w (.cells (cells8 (up (List.replicate l2 0))).toArray 5)) (Nat.le_refl _) (n := l2) (by simp [up]) (by omega)
  have hmk := make8 l2 (by omega) w
  have c1' := chg_one w (.cells (cells8 (up (List.replicate l2 0))).toArray 5)
  generalize hA : (cells8 (up (List.replicate l2 0))).toArray = A at *
  go_enter Tryd.func3, Tryd.ntmps3
  go_wp2
  clear hmk hA
  generalize w.alloc (.cells A 5) = w1 at *
  have HLX : Hid (xs.length = l0) := lx
  have HLY : Hid (ys.length = l1) := ly
  have HLZ : Hid (zs.length = l2) := lz
  have HLM : Hid ((mix xs ys zs l2).length = l2) := lm
  have E32 : Hid (Crc.more Crc.P32 32 0 (mix xs ys zs l2) = _) := e32
  have E64 : Hid (Crc.more Crc.P64 64 0 (mix xs ys zs l2) = _) := e64
  have ho0 : Hid (w1.ownsRow w.heap.size 5 1 (.slice (some ⟨w.heap.size, 0, none⟩) l2 l2) l2 (cells8 (up ((mix xs ys zs l2).take 0 ++ List.replicate (l2 - 0) 0)))) := by
    show World.ownsRow _ _ _ _ _ _ _
    simpa using o1
  clear lx ly lz lm e32 e64 o1
  go_loopw [9] (fun j wr => ∃ k : Nat, k ≤ l2 ∧ j = .int .i64 k ∧ Hid (wr.ownsRow w.heap.size 5 1 (.slice (some ⟨w.heap.size, 0, none⟩) l2 l2) l2 (cells8 (up ((mix xs ys zs l2).take k ++ List.replicate (l2 - k) 0)))) ∧ Chg (fun _ => False) w wr) (fun j _ => l2 - (intOf j).toNat)
  case atStart => exact ⟨0, by omega, rfl, ho0, c1'⟩
  case round =>
    clear ho0 c1'
    obtain ⟨k, hk, rfl, HO, hcw⟩ := hrel
    by_cases hlt : k < l2
    · obtain ⟨ax, rfl⟩ := cell_some hx k (by omega)
      obtain ⟨ay, rfl⟩ := cell_some hy k (by omega)
      obtain ⟨az, rfl⟩ := cell_some hz k (by omega)
      have jx : k < xs.length := by rw [HLX.out]; omega
      have jy : k < ys.length := by rw [HLY.out]; omega
      have jz : k < zs.length := by rw [HLZ.out]; omega
      have jm : k < (mix xs ys zs l2).length := by rw [HLM.out]; exact hlt
      have q1 := cell_at (row8_chg hx hcw) k jx
      have q2 := cell_at (row8_chg hy hcw) k jy
      have q3 := cell_at (row8_chg hz hcw) k jz
      have r1 := bx.at k jx
      have r2 := bY.at k jy
      have r3 := bz.at k jz
      have x1 := u8xor _ _ r1 r2
      have r12 : xs[k] ^^^ ys[k] < 256 := Nat.xor_lt_two_pow (n := 8) r1 r2
      have x2 := u8xor _ _ r12 r3
      have hAt := mix_at (x := xs) (y := ys) (z := zs) (N := l2) (by rw [HLX.out]; omega) (by rw [HLY.out]; omega) (by rw [HLZ.out]; omega) hlt jm
      obtain ⟨g, cap, hv, hBg, hcell, hfr, hset⟩ := own_set HO.out k hlt
      simp only [Value.slice.injEq, Option.some.injEq, Addr.mk.injEq, and_true, true_and] at hv
      obtain ⟨rfl, rfl⟩ := hv
      have hcl := hcell (0 : Int) (fill_get _ _ k hlt HLM.out)
      have HO2 : Hid ((wr.setCell ⟨w.heap.size, k, none⟩ (.int .u8 ((xs[k] ^^^ ys[k] ^^^ zs[k] : Nat) : Int))).ownsRow w.heap.size 5 1 (.slice (some ⟨w.heap.size, 0, none⟩) l2 l2) l2 (cells8 (up ((mix xs ys zs l2).take (k + 1) ++ List.replicate (l2 - (k + 1)) 0)))) := by
        show World.ownsRow _ _ _ _ _ _ _
        rw [← fill_set _ _ k jm HLM.out, ← up_set, hAt]
        exact hset _
      have HC2 : Hid (Chg (fun _ => False) w (wr.setCell ⟨w.heap.size, k, none⟩ (.int .u8 ((xs[k] ^^^ ys[k] ^^^ zs[k] : Nat) : Int)))) := hcw.setCell (.inr (Nat.le_refl _)) _
      clear hset hcell hAt HO
      generalize xs[k] ^^^ ys[k] ^^^ zs[k] = t2 at *
      generalize xs[k] ^^^ ys[k] = t1 at *
      generalize xs[k] = p1 at *
      generalize ys[k] = p2 at *
      generalize zs[k] = p3 at *
      clear hx hy hz hT bx bY bz hD k1 k2 k3 k4 k5 k6 E32 E64
      go_wp2_with fail
      go_region
      go_wp2
      go_roundw
      case rel => exact ⟨k + 1, by omega, by go_num, HO2, HC2.out.drew⟩
      case measure => simp [intOf]; omega
    · obtain rfl : l2 = k := by omega
      have HM : Hid (Row8 wr (some ⟨w.heap.size, 0, none⟩) l2 l2 (up (mix xs ys zs l2))) := by
        show Row8 _ _ _ _ _
        obtain ⟨ad, c', hv, hr, -⟩ := own_row8c HO.out
        simp only [Value.slice.injEq, true_and] at hv
        obtain ⟨rfl, rfl⟩ := hv
        rw [List.take_of_length_le (by rw [HLM.out]; exact Nat.le_refl _)] at hr
        simpa using hr
      have s0 : l2 ≤ c0 := by omega
      have s1 : l2 ≤ c1 := by omega
      have s2 : l2 ≤ c2 := by omega
      have hxr := row8_chg hx hcw
      have hyr := row8_chg hy hcw
      have hzr := row8_chg hz hcw
      have hTr := hT.new hcw
      clear HO hx hy hz hT
      generalize g1 : Crc.more Crc.P32 32 0 (xs.take l2) = x32 at *
      generalize g2 : Crc.more Crc.P32 32 0 (ys.take l2) = y32 at *
      generalize g3 : Crc.more Crc.P32 32 0 (zs.take l2) = z32 at *
      generalize g4 : Crc.more Crc.P64 64 0 (xs.take l2) = x64 at *
      generalize g5 : Crc.more Crc.P64 64 0 (ys.take l2) = y64 at *
      generalize g6 : Crc.more Crc.P64 64 0 (zs.take l2) = z64 at *
      have HX32 : Hid (Crc.more Crc.P32 32 0 (xs.take l2) = x32) := g1
      have HY32 : Hid (Crc.more Crc.P32 32 0 (ys.take l2) = y32) := g2
      have HZ32 : Hid (Crc.more Crc.P32 32 0 (zs.take l2) = z32) := g3
      have HX64 : Hid (Crc.more Crc.P64 64 0 (xs.take l2) = x64) := g4
      have HY64 : Hid (Crc.more Crc.P64 64 0 (ys.take l2) = y64) := g5
      have HZ64 : Hid (Crc.more Crc.P64 64 0 (zs.take l2) = z64) := g6
      clear g1 g2 g3 g4 g5 g6
      have x1 := xor32 x32 y32 k1 k2
      have x2 := xor32 (x32 ^^^ y32) z32 (Nat.xor_lt_two_pow (n := 32) k1 k2) k3
      have x3 := xor64 x64 y64 k4 k5
      have x4 := xor64 (x64 ^^^ y64) z64 (Nat.xor_lt_two_pow (n := 64) k4 k5) k6
      go_wp2_with fail
      refine wp_region_free (mk := fun u => #[_, _, _, _, _, _, _, _, _, _, u 10, _, _, _, _, _, _, _, _, _, _, _, _, _, _, _, _, _, _, _, _, _, _, _, _, _, _, _, _, _, _, _, _, _, _, _, _, _, _, _, u 50, u 51, u 52, u 53, u 54, u 55, u 56, u 57, u 58, u 59, u 60, u 61, u 62, u 63, u 64, u 65, u 66, _, _, _, _, _, _, _, _, _, _, _, _, _, _, _, _, _, _, _, _, _, _, _, _, _, _, _, _, _, _, _, _]) (F := fun slot v w => (look [(50, .val (.slice a l0 c0)), (51, .val (.int .i64 (l2 : Nat))), (52, .val (.slice a l2 c0)), (53, .pcs [xs.take l2]), (54, .val (.int .u32 (x32 : Nat))), (55, .val (.slice b l1 c1)), (56, .val (.int .i64 (l2 : Nat))), (57, .val (.slice b l2 c1)), (58, .pcs [ys.take l2]), (59, .val (.int .u32 (y32 : Nat))), (60, .val (.int .u32 (x32 ^^^ y32 : Nat))), (61, .val (.slice d l2 c2)), (62, .val (.int .i64 (l2 : Nat))), (63, .val (.slice d l2 c2)), (64, .pcs [zs.take l2]), (65, .val (.int .u32 (z32 : Nat))), (66, .val (.int .u32 (x32 ^^^ y32 ^^^ z32 : Nat))), (10, .val (.int .u32 (x32 ^^^ y32 ^^^ z32 : Nat)))] slot).holds v w) (fun _ => undef) rfl (by kernel_rfl) (by kernel_rfl) ?_ (fun _ v w w' hc h => Fact.stays _ v w w' hc h) ?_ ?_
      · repeat (refine ⟨⟨_, rfl, fun _ _ => rfl⟩, ?_⟩)
        exact trivial
      · refine ⟨?_, ?_, ?_, ?_, ?_, ?_, ?_, ?_, ?_, ?_, ?_, ?_, ?_, ?_, ?_, ?_, ?_, ?_, trivial⟩
        · intro u w hc hd K hK -- 50
          clear hd
          go_simp
          exact hK.out (.slice a l0 c0) w (Chg.refl _ _) rfl
        · intro u w hc hd K hK -- 51
          clear hd
          go_simp
          exact hK.out (.int .i64 (l2 : Nat)) w (Chg.refl _ _) rfl
        · intro u w hc hd K hK -- 52
          have h50 : (Fact.val (.slice a l0 c0)).holds (u 50) w := hd.get 0 (by kernel_rfl)
          simp only [Fact.holds] at h50
          have h51 : (Fact.val (.int .i64 (l2 : Nat))).holds (u 51) w := hd.get 1 (by kernel_rfl)
          simp only [Fact.holds] at h51
          clear hd
          simp only [h50, h51] at hK
          go_simp
          exact hK.out (.slice a l2 c0) w (Chg.refl _ _) rfl
        · intro u w hc hd K hK -- 53
          have h52 : (Fact.val (.slice a l2 c0)).holds (u 52) w := hd.get 2 (by kernel_rfl)
          simp only [Fact.holds] at h52
          clear hd
          simp only [h52] at hK
          go_simp
          exact hK.out _ _ (chg_one w _) ⟨_, rfl, pieces_one 22 ⟨_, _, _, rfl, (up_take xs l2).symm ▸ row8_take (row8_chg hxr hc) l2 (by omega), bx.take l2, by omega⟩⟩
        · intro u w hc hd K hK -- 54
          have h53 : (Fact.pcs [xs.take l2]).holds (u 53) w := hd.get 3 (by kernel_rfl)
          obtain ⟨q53, h53, p53⟩ := h53
          simp only [List.length_cons, List.length_nil, Nat.reduceAdd] at h53
          clear hd
          simp only [h53] at hK
          go_simp
          go_at_call 9
          refine (sum32_any q53 1 1 [xs.take l2] w (hTr.new hc) p53 rfl (by decide)).mono ?_
          rintro e w1 ⟨rfl, rfl⟩
          refine hK.out _ _ (Chg.refl _ _) ?_
          show _ = _
          rw [one, HX32.out]
        · intro u w hc hd K hK -- 55
          clear hd
          go_simp
          exact hK.out (.slice b l1 c1) w (Chg.refl _ _) rfl
        · intro u w hc hd K hK -- 56
          clear hd
          go_simp
          exact hK.out (.int .i64 (l2 : Nat)) w (Chg.refl _ _) rfl
        · intro u w hc hd K hK -- 57
          have h55 : (Fact.val (.slice b l1 c1)).holds (u 55) w := hd.get 5 (by kernel_rfl)
          simp only [Fact.holds] at h55
          have h56 : (Fact.val (.int .i64 (l2 : Nat))).holds (u 56) w := hd.get 6 (by kernel_rfl)
          simp only [Fact.holds] at h56
          clear hd
          simp only [h55, h56] at hK
          go_simp
          exact hK.out (.slice b l2 c1) w (Chg.refl _ _) rfl
        · intro u w hc hd K hK -- 58
          have h57 : (Fact.val (.slice b l2 c1)).holds (u 57) w := hd.get 7 (by kernel_rfl)
          simp only [Fact.holds] at h57
          clear hd
          simp only [h57] at hK
          go_simp
          exact hK.out _ _ (chg_one w _) ⟨_, rfl, pieces_one 22 ⟨_, _, _, rfl, (up_take ys l2).symm ▸ row8_take (row8_chg hyr hc) l2 (by omega), bY.take l2, by omega⟩⟩
        · intro u w hc hd K hK -- 59
          have h58 : (Fact.pcs [ys.take l2]).holds (u 58) w := hd.get 8 (by kernel_rfl)
          obtain ⟨q58, h58, p58⟩ := h58
          simp only [List.length_cons, List.length_nil, Nat.reduceAdd] at h58
          clear hd
          simp only [h58] at hK
          go_simp
          go_at_call 9
          refine (sum32_any q58 1 1 [ys.take l2] w (hTr.new hc) p58 rfl (by decide)).mono ?_
          rintro e w1 ⟨rfl, rfl⟩
          refine hK.out _ _ (Chg.refl _ _) ?_
          show _ = _
          rw [one, HY32.out]
        · intro u w hc hd K hK -- 60
          have h54 : (Fact.val (.int .u32 (x32 : Nat))).holds (u 54) w := hd.get 4 (by kernel_rfl)
          simp only [Fact.holds] at h54
          have h59 : (Fact.val (.int .u32 (y32 : Nat))).holds (u 59) w := hd.get 9 (by kernel_rfl)
          simp only [Fact.holds] at h59
          clear hd
          simp only [h54, h59] at hK
          go_simp
          exact hK.out (.int .u32 (x32 ^^^ y32 : Nat)) w (Chg.refl _ _) rfl
        · intro u w hc hd K hK -- 61
          clear hd
          go_simp
          exact hK.out (.slice d l2 c2) w (Chg.refl _ _) rfl
        · intro u w hc hd K hK -- 62
          clear hd
          go_simp
          exact hK.out (.int .i64 (l2 : Nat)) w (Chg.refl _ _) rfl
        · intro u w hc hd K hK -- 63
          have h61 : (Fact.val (.slice d l2 c2)).holds (u 61) w := hd.get 11 (by kernel_rfl)
          simp only [Fact.holds] at h61
          have h62 : (Fact.val (.int .i64 (l2 : Nat))).holds (u 62) w := hd.get 12 (by kernel_rfl)
          simp only [Fact.holds] at h62
          clear hd
          simp only [h61, h62] at hK
          go_simp
          exact hK.out (.slice d l2 c2) w (Chg.refl _ _) rfl
        · intro u w hc hd K hK -- 64
          have h63 : (Fact.val (.slice d l2 c2)).holds (u 63) w := hd.get 13 (by kernel_rfl)
          simp only [Fact.holds] at h63
          clear hd
          simp only [h63] at hK
          go_simp
          exact hK.out _ _ (chg_one w _) ⟨_, rfl, pieces_one 22 ⟨_, _, _, rfl, (up_take zs l2).symm ▸ row8_take (row8_chg hzr hc) l2 (by omega), bz.take l2, by omega⟩⟩
        · intro u w hc hd K hK -- 65
          have h64 : (Fact.pcs [zs.take l2]).holds (u 64) w := hd.get 14 (by kernel_rfl)
          obtain ⟨q64, h64, p64⟩ := h64
          simp only [List.length_cons, List.length_nil, Nat.reduceAdd] at h64
          clear hd
          simp only [h64] at hK
          go_simp
          go_at_call 9
          refine (sum32_any q64 1 1 [zs.take l2] w (hTr.new hc) p64 rfl (by decide)).mono ?_
          rintro e w1 ⟨rfl, rfl⟩
          refine hK.out _ _ (Chg.refl _ _) ?_
          show _ = _
          rw [one, HZ32.out]
        · intro u w hc hd K hK -- 66
          have h60 : (Fact.val (.int .u32 (x32 ^^^ y32 : Nat))).holds (u 60) w := hd.get 10 (by kernel_rfl)
          simp only [Fact.holds] at h60
          have h65 : (Fact.val (.int .u32 (z32 : Nat))).holds (u 65) w := hd.get 15 (by kernel_rfl)
          simp only [Fact.holds] at h65
          clear hd
          simp only [h60, h65] at hK
          go_simp
          exact hK.out (.int .u32 (x32 ^^^ y32 ^^^ z32 : Nat)) w (Chg.refl _ _) rfl
        · intro u w hc hd K hK -- 10
          have h66 : (Fact.val (.int .u32 (x32 ^^^ y32 ^^^ z32 : Nat))).holds (u 66) w := hd.get 16 (by kernel_rfl)
          simp only [Fact.holds] at h66
          clear hd
          simp only [h66] at hK
          go_simp
          exact hK.out (.int .u32 (x32 ^^^ y32 ^^^ z32 : Nat)) w (Chg.refl _ _) rfl
      · intro u w2 hc hA
        have H10 : (Fact.val (.int .u32 (x32 ^^^ y32 ^^^ z32 : Nat))).holds (u 10) w2 := hA.at 10 (by kernel_rfl)
        simp only [Fact.holds] at H10
        clear hA
        have hTr2 := hTr.new hc
        have hxr2 := row8_chg hxr hc
        have hyr2 := row8_chg hyr hc
        have hzr2 := row8_chg hzr hc
        have HM2 : Hid (Row8 w2 (some ⟨w.heap.size, 0, none⟩) l2 l2 (up (mix xs ys zs l2))) := row8_chg HM.out hc
        have hcw2 := chg_then hcw hc
        clear hTr hxr hyr hzr HM hcw hc
        have hxr := hxr2
        have hyr := hyr2
        have hzr := hzr2
        have hTr := hTr2
        clear hxr2 hyr2 hzr2 hTr2
        simp only [H10]
        clear H10
        go_wp2_with fail
        refine wp_region_free (mk := fun u => #[_, _, _, _, _, _, _, _, _, _, _, u 11, _, _, _, _, _, _, _, _, _, _, _, _, _, _, _, _, _, _, _, _, _, _, _, _, _, _, _, _, _, _, _, _, _, _, _, _, _, _, _, _, _, _, _, _, _, _, _, _, _, _, _, _, _, _, _, u 67, u 68, u 69, u 70, u 71, u 72, u 73, u 74, u 75, u 76, u 77, u 78, u 79, u 80, u 81, u 82, u 83, _, _, _, _, _, _, _, _, _, _, _, _, _, _, _]) (F := fun slot v w => (look [(67, .val (.slice a l0 c0)), (68, .val (.int .i64 (l2 : Nat))), (69, .val (.slice a l2 c0)), (70, .pcs [xs.take l2]), (71, .val (.int .u64 (x64 : Nat))), (72, .val (.slice b l1 c1)), (73, .val (.int .i64 (l2 : Nat))), (74, .val (.slice b l2 c1)), (75, .pcs [ys.take l2]), (76, .val (.int .u64 (y64 : Nat))), (77, .val (.int .u64 (x64 ^^^ y64 : Nat))), (78, .val (.slice d l2 c2)), (79, .val (.int .i64 (l2 : Nat))), (80, .val (.slice d l2 c2)), (81, .pcs [zs.take l2]), (82, .val (.int .u64 (z64 : Nat))), (83, .val (.int .u64 (x64 ^^^ y64 ^^^ z64 : Nat))), (11, .val (.int .u64 (x64 ^^^ y64 ^^^ z64 : Nat)))] slot).holds v w) (fun _ => undef) rfl (by kernel_rfl) (by kernel_rfl) ?_ (fun _ v w w' hc h => Fact.stays _ v w w' hc h) ?_ ?_
        · repeat (refine ⟨⟨_, rfl, fun _ _ => rfl⟩, ?_⟩)
          exact trivial
        · refine ⟨?_, ?_, ?_, ?_, ?_, ?_, ?_, ?_, ?_, ?_, ?_, ?_, ?_, ?_, ?_, ?_, ?_, ?_, trivial⟩
          · intro u w hc hd K hK -- 67
            clear hd
            go_simp
            exact hK.out (.slice a l0 c0) w (Chg.refl _ _) rfl
          · intro u w hc hd K hK -- 68
            clear hd
            go_simp
            exact hK.out (.int .i64 (l2 : Nat)) w (Chg.refl _ _) rfl
          · intro u w hc hd K hK -- 69
            have h67 : (Fact.val (.slice a l0 c0)).holds (u 67) w := hd.get 0 (by kernel_rfl)
            simp only [Fact.holds] at h67
            have h68 : (Fact.val (.int .i64 (l2 : Nat))).holds (u 68) w := hd.get 1 (by kernel_rfl)
            simp only [Fact.holds] at h68
            clear hd
            simp only [h67, h68] at hK
            go_simp
            exact hK.out (.slice a l2 c0) w (Chg.refl _ _) rfl
          · intro u w hc hd K hK -- 70
            have h69 : (Fact.val (.slice a l2 c0)).holds (u 69) w := hd.get 2 (by kernel_rfl)
            simp only [Fact.holds] at h69
            clear hd
            simp only [h69] at hK
            go_simp
            exact hK.out _ _ (chg_one w _) ⟨_, rfl, pieces_one 22 ⟨_, _, _, rfl, (up_take xs l2).symm ▸ row8_take (row8_chg hxr hc) l2 (by omega), bx.take l2, by omega⟩⟩
          · intro u w hc hd K hK -- 71
            have h70 : (Fact.pcs [xs.take l2]).holds (u 70) w := hd.get 3 (by kernel_rfl)
            obtain ⟨q70, h70, p70⟩ := h70
            simp only [List.length_cons, List.length_nil, Nat.reduceAdd] at h70
            clear hd
            simp only [h70] at hK
            go_simp
            go_at_call 10
            refine (sum64_any q70 1 1 [xs.take l2] w (hTr.new hc) p70 rfl (by decide)).mono ?_
            rintro e w1 ⟨rfl, rfl⟩
            refine hK.out _ _ (Chg.refl _ _) ?_
            show _ = _
            rw [one, HX64.out]
          · intro u w hc hd K hK -- 72
            clear hd
            go_simp
            exact hK.out (.slice b l1 c1) w (Chg.refl _ _) rfl
          · intro u w hc hd K hK -- 73
            clear hd
            go_simp
            exact hK.out (.int .i64 (l2 : Nat)) w (Chg.refl _ _) rfl
          · intro u w hc hd K hK -- 74
            have h72 : (Fact.val (.slice b l1 c1)).holds (u 72) w := hd.get 5 (by kernel_rfl)
            simp only [Fact.holds] at h72
            have h73 : (Fact.val (.int .i64 (l2 : Nat))).holds (u 73) w := hd.get 6 (by kernel_rfl)
            simp only [Fact.holds] at h73
            clear hd
            simp only [h72, h73] at hK
            go_simp
            exact hK.out (.slice b l2 c1) w (Chg.refl _ _) rfl
          · intro u w hc hd K hK -- 75
            have h74 : (Fact.val (.slice b l2 c1)).holds (u 74) w := hd.get 7 (by kernel_rfl)
            simp only [Fact.holds] at h74
            clear hd
            simp only [h74] at hK
            go_simp
            exact hK.out _ _ (chg_one w _) ⟨_, rfl, pieces_one 22 ⟨_, _, _, rfl, (up_take ys l2).symm ▸ row8_take (row8_chg hyr hc) l2 (by omega), bY.take l2, by omega⟩⟩
          · intro u w hc hd K hK -- 76
            have h75 : (Fact.pcs [ys.take l2]).holds (u 75) w := hd.get 8 (by kernel_rfl)
            obtain ⟨q75, h75, p75⟩ := h75
            simp only [List.length_cons, List.length_nil, Nat.reduceAdd] at h75
            clear hd
            simp only [h75] at hK
            go_simp
            go_at_call 10
            refine (sum64_any q75 1 1 [ys.take l2] w (hTr.new hc) p75 rfl (by decide)).mono ?_
            rintro e w1 ⟨rfl, rfl⟩
            refine hK.out _ _ (Chg.refl _ _) ?_
            show _ = _
            rw [one, HY64.out]
          · intro u w hc hd K hK -- 77
            have h71 : (Fact.val (.int .u64 (x64 : Nat))).holds (u 71) w := hd.get 4 (by kernel_rfl)
            simp only [Fact.holds] at h71
            have h76 : (Fact.val (.int .u64 (y64 : Nat))).holds (u 76) w := hd.get 9 (by kernel_rfl)
            simp only [Fact.holds] at h76
            clear hd
            simp only [h71, h76] at hK
            go_simp
            exact hK.out (.int .u64 (x64 ^^^ y64 : Nat)) w (Chg.refl _ _) rfl
          · intro u w hc hd K hK -- 78
            clear hd
            go_simp
            exact hK.out (.slice d l2 c2) w (Chg.refl _ _) rfl
          · intro u w hc hd K hK -- 79
            clear hd
            go_simp
            exact hK.out (.int .i64 (l2 : Nat)) w (Chg.refl _ _) rfl
          · intro u w hc hd K hK -- 80
            have h78 : (Fact.val (.slice d l2 c2)).holds (u 78) w := hd.get 11 (by kernel_rfl)
            simp only [Fact.holds] at h78
            have h79 : (Fact.val (.int .i64 (l2 : Nat))).holds (u 79) w := hd.get 12 (by kernel_rfl)
            simp only [Fact.holds] at h79
            clear hd
            simp only [h78, h79] at hK
            go_simp
            exact hK.out (.slice d l2 c2) w (Chg.refl _ _) rfl
          · intro u w hc hd K hK -- 81
            have h80 : (Fact.val (.slice d l2 c2)).holds (u 80) w := hd.get 13 (by kernel_rfl)
            simp only [Fact.holds] at h80
            clear hd
            simp only [h80] at hK
            go_simp
            exact hK.out _ _ (chg_one w _) ⟨_, rfl, pieces_one 22 ⟨_, _, _, rfl, (up_take zs l2).symm ▸ row8_take (row8_chg hzr hc) l2 (by omega), bz.take l2, by omega⟩⟩
          · intro u w hc hd K hK -- 82
            have h81 : (Fact.pcs [zs.take l2]).holds (u 81) w := hd.get 14 (by kernel_rfl)
            obtain ⟨q81, h81, p81⟩ := h81
            simp only [List.length_cons, List.length_nil, Nat.reduceAdd] at h81
            clear hd
            simp only [h81] at hK
            go_simp
            go_at_call 10
            refine (sum64_any q81 1 1 [zs.take l2] w (hTr.new hc) p81 rfl (by decide)).mono ?_
            rintro e w1 ⟨rfl, rfl⟩
            refine hK.out _ _ (Chg.refl _ _) ?_
            show _ = _
            rw [one, HZ64.out]
          · intro u w hc hd K hK -- 83
            have h77 : (Fact.val (.int .u64 (x64 ^^^ y64 : Nat))).holds (u 77) w := hd.get 10 (by kernel_rfl)
            simp only [Fact.holds] at h77
            have h82 : (Fact.val (.int .u64 (z64 : Nat))).holds (u 82) w := hd.get 15 (by kernel_rfl)
            simp only [Fact.holds] at h82
            clear hd
            simp only [h77, h82] at hK
            go_simp
            exact hK.out (.int .u64 (x64 ^^^ y64 ^^^ z64 : Nat)) w (Chg.refl _ _) rfl
          · intro u w hc hd K hK -- 11
            have h83 : (Fact.val (.int .u64 (x64 ^^^ y64 ^^^ z64 : Nat))).holds (u 83) w := hd.get 16 (by kernel_rfl)
            simp only [Fact.holds] at h83
            clear hd
            simp only [h83] at hK
            go_simp
            exact hK.out (.int .u64 (x64 ^^^ y64 ^^^ z64 : Nat)) w (Chg.refl _ _) rfl
        · intro u' w3 hc hA
          have H11 : (Fact.val (.int .u64 (x64 ^^^ y64 ^^^ z64 : Nat))).holds (u' 11) w3 := hA.at 11 (by kernel_rfl)
          simp only [Fact.holds] at H11
          clear hA
          have hT3 := hTr.new hc
          have r3 : Row8 w3 (some ⟨w.heap.size, 0, none⟩) l2 l2 (up (mix xs ys zs l2)) := row8_chg HM2.out hc
          have cw3 := chg_then hcw2 hc
          clear hTr hxr hyr hzr HM2 hcw2 hc
          simp only [H11]
          clear H11
          go_wp2_with fail
          refine (sum32_any _ 1 1 [mix xs ys zs l2] _ (hT3.new (chg_one w3 _)) (pieces_one 22 ⟨_, _, _, rfl, r3, hD, by omega⟩) rfl (by decide)).mono ?_
          rintro e w4 ⟨rfl, rfl⟩
          rw [one, E32.out]
          have c4 := chg_one w3 (.cells #[.slice (some ⟨w.heap.size, 0, none⟩) l2 l2] 22)
          have hT4 := hT3.new c4
          have r4 := row8_chg r3 c4
          have cw4 := chg_then cw3 c4
          clear hT3 r3 c4 cw3
          generalize hw4 : w3.alloc (.cells #[.slice (some ⟨w.heap.size, 0, none⟩) l2 l2] 22) = w4 at *
          clear hw4
          go_wp2_with fail
          refine (sum64_any _ 1 1 [mix xs ys zs l2] _ (hT4.new (chg_one w4 _)) (pieces_one 22 ⟨_, _, _, rfl, r4, hD, by omega⟩) rfl (by decide)).mono ?_
          rintro e w5 ⟨rfl, rfl⟩
          rw [one, E64.out]
          have c5 := chg_one w4 (.cells #[.slice (some ⟨w.heap.size, 0, none⟩) l2 l2] 22)
          have hT5 := hT4.new c5
          have cw5 := chg_then cw4 c5
          clear hT4 r4 c5 cw4
          generalize hw5 : w4.alloc (.cells #[.slice (some ⟨w.heap.size, 0, none⟩) l2 l2] 22) = w5 at *
          clear hw5
          go_wp2_with fail
          refine (fixed_any w5 hT5).mono ?_
          rintro e w6 ⟨rfl, c6⟩
          go_wp2
          go_ret
          exact ⟨rfl, chg_then cw5 c6⟩

set_option maxHeartbeats 8000000 in
set_option maxRecDepth 100000 in
theorem walk2 (a b d : Option Addr) (l0 l1 l2 c0 c1 c2 : Nat) (xs ys zs : List Nat) (w : World) (hT : Tab w) (hx : Row8 w a l0 c0 (up xs)) (hy : Row8 w b l1 c1 (up ys)) (hz : Row8 w d l2 c2 (up zs)) (bx : Byt xs) (bY : Byt ys) (bz : Byt zs)
    (n0 : l0 ≤ 140737488351232) (n1 : l1 ≤ 140737488351232) (n2 : l2 ≤ 140737488351232) (m0 : l0 ≤ c0) (m1 : l1 ≤ c1) (m2 : l2 ≤ c2) (h1 : l1 < l0) (h2 : ¬ l2 < l1) :
    Calls Tryd.prog 3 #[.slice a l0 c0, .slice b l1 c1, .slice d l2 c2] w fun e w' => e = .returned (.bool true) ∧ Chg (fun _ => False) w w' := by
  obtain ⟨i0, hi, hz0, hz1, hz2⟩ := info_parts info5
  have lx : xs.length = l0 := by rw [← up_length]; exact hx.1
  have ly : ys.length = l1 := by rw [← up_length]; exact hy.1
  have lz : zs.length = l2 := by rw [← up_length]; exact hz.1
  have e32 := sum32 (x := xs) (y := ys) (z := zs) (N := l1) (by omega) (by omega) (by omega)
  have e64 := sum64 (x := xs) (y := ys) (z := zs) (N := l1) (by omega) (by omega) (by omega)
  have lm := mix_length (x := xs) (y := ys) (z := zs) (N := l1) (by omega) (by omega) (by omega)
  have hD := mix_byt (N := l1) bx bY bz
  have k1 := more32_lt (s := 0) (bx.take l1) (by decide)
  have k2 := more32_lt (s := 0) (bY.take l1) (by decide)
  have k3 := more32_lt (s := 0) (bz.take l1) (by decide)
  have k4 := more64_lt (s := 0) (bx.take l1) (by decide)
  have k5 := more64_lt (s := 0) (bY.take l1) (by decide)
  have k6 := more64_lt (s := 0) (bz.take l1) (by decide)
  have o1 := own_of_blk (heap_alloc_last w (.cells (cells8 (up (List.replicate l1 0))).toArray 5)) (Nat.le_refl _) (n := l1) (by simp [up]) (by omega)
  have hmk := make8 l1 (by omega) w
  have c1' := chg_one w (.cells (cells8 (up (List.replicate l1 0))).toArray 5)
  generalize hA : (cells8 (up (List.replicate l1 0))).toArray = A at *
  go_enter Tryd.func3, Tryd.ntmps3
  go_wp2
  clear hmk hA
  generalize w.alloc (.cells A 5) = w1 at *
  have HLX : Hid (xs.length = l0) := lx
  have HLY : Hid (ys.length = l1) := ly
  have HLZ : Hid (zs.length = l2) := lz
  have HLM : Hid ((mix xs ys zs l1).length = l1) := lm
  have E32 : Hid (Crc.more Crc.P32 32 0 (mix xs ys zs l1) = _) := e32
  have E64 : Hid (Crc.more Crc.P64 64 0 (mix xs ys zs l1) = _) := e64
  have ho0 : Hid (w1.ownsRow w.heap.size 5 1 (.slice (some ⟨w.heap.size, 0, none⟩) l1 l1) l1 (cells8 (up ((mix xs ys zs l1).take 0 ++ List.replicate (l1 - 0) 0)))) := by
    show World.ownsRow _ _ _ _ _ _ _
    simpa using o1
  clear lx ly lz lm e32 e64 o1
  go_loopw [9] (fun j wr => ∃ k : Nat, k ≤ l1 ∧ j = .int .i64 k ∧ Hid (wr.ownsRow w.heap.size 5 1 (.slice (some ⟨w.heap.size, 0, none⟩) l1 l1) l1 (cells8 (up ((mix xs ys zs l1).take k ++ List.replicate (l1 - k) 0)))) ∧ Chg (fun _ => False) w wr) (fun j _ => l1 - (intOf j).toNat)
  case atStart => exact ⟨0, by omega, rfl, ho0, c1'⟩
  case round =>
    clear ho0 c1'
    obtain ⟨k, hk, rfl, HO, hcw⟩ := hrel
    by_cases hlt : k < l1
    · obtain ⟨ax, rfl⟩ := cell_some hx k (by omega)
      obtain ⟨ay, rfl⟩ := cell_some hy k (by omega)
      obtain ⟨az, rfl⟩ := cell_some hz k (by omega)
      have jx : k < xs.length := by rw [HLX.out]; omega
      have jy : k < ys.length := by rw [HLY.out]; omega
      have jz : k < zs.length := by rw [HLZ.out]; omega
      have jm : k < (mix xs ys zs l1).length := by rw [HLM.out]; exact hlt
      have q1 := cell_at (row8_chg hx hcw) k jx
      have q2 := cell_at (row8_chg hy hcw) k jy
      have q3 := cell_at (row8_chg hz hcw) k jz
      have r1 := bx.at k jx
      have r2 := bY.at k jy
      have r3 := bz.at k jz
      have x1 := u8xor _ _ r1 r2
      have r12 : xs[k] ^^^ ys[k] < 256 := Nat.xor_lt_two_pow (n := 8) r1 r2
      have x2 := u8xor _ _ r12 r3
      have hAt := mix_at (x := xs) (y := ys) (z := zs) (N := l1) (by rw [HLX.out]; omega) (by rw [HLY.out]; omega) (by rw [HLZ.out]; omega) hlt jm
      obtain ⟨g, cap, hv, hBg, hcell, hfr, hset⟩ := own_set HO.out k hlt
      simp only [Value.slice.injEq, Option.some.injEq, Addr.mk.injEq, and_true, true_and] at hv
      obtain ⟨rfl, rfl⟩ := hv
      have hcl := hcell (0 : Int) (fill_get _ _ k hlt HLM.out)
      have HO2 : Hid ((wr.setCell ⟨w.heap.size, k, none⟩ (.int .u8 ((xs[k] ^^^ ys[k] ^^^ zs[k] : Nat) : Int))).ownsRow w.heap.size 5 1 (.slice (some ⟨w.heap.size, 0, none⟩) l1 l1) l1 (cells8 (up ((mix xs ys zs l1).take (k + 1) ++ List.replicate (l1 - (k + 1)) 0)))) := by
        show World.ownsRow _ _ _ _ _ _ _
        rw [← fill_set _ _ k jm HLM.out, ← up_set, hAt]
        exact hset _
      have HC2 : Hid (Chg (fun _ => False) w (wr.setCell ⟨w.heap.size, k, none⟩ (.int .u8 ((xs[k] ^^^ ys[k] ^^^ zs[k] : Nat) : Int)))) := hcw.setCell (.inr (Nat.le_refl _)) _
      clear hset hcell hAt HO
      generalize xs[k] ^^^ ys[k] ^^^ zs[k] = t2 at *
      generalize xs[k] ^^^ ys[k] = t1 at *
      generalize xs[k] = p1 at *
      generalize ys[k] = p2 at *
      generalize zs[k] = p3 at *
      clear hx hy hz hT bx bY bz hD k1 k2 k3 k4 k5 k6 E32 E64
      go_wp2_with fail
      go_region
      go_wp2
      go_roundw
      case rel => exact ⟨k + 1, by omega, by go_num, HO2, HC2.out.drew⟩
      case measure => simp [intOf]; omega
    · obtain rfl : l1 = k := by omega
      have HM : Hid (Row8 wr (some ⟨w.heap.size, 0, none⟩) l1 l1 (up (mix xs ys zs l1))) := by
        show Row8 _ _ _ _ _
        obtain ⟨ad, c', hv, hr, -⟩ := own_row8c HO.out
        simp only [Value.slice.injEq, true_and] at hv
        obtain ⟨rfl, rfl⟩ := hv
        rw [List.take_of_length_le (by rw [HLM.out]; exact Nat.le_refl _)] at hr
        simpa using hr
      have s0 : l1 ≤ c0 := by omega
      have s1 : l1 ≤ c1 := by omega
      have s2 : l1 ≤ c2 := by omega
      have hxr := row8_chg hx hcw
      have hyr := row8_chg hy hcw
      have hzr := row8_chg hz hcw
      have hTr := hT.new hcw
      clear HO hx hy hz hT
      generalize g1 : Crc.more Crc.P32 32 0 (xs.take l1) = x32 at *
      generalize g2 : Crc.more Crc.P32 32 0 (ys.take l1) = y32 at *
      generalize g3 : Crc.more Crc.P32 32 0 (zs.take l1) = z32 at *
      generalize g4 : Crc.more Crc.P64 64 0 (xs.take l1) = x64 at *
      generalize g5 : Crc.more Crc.P64 64 0 (ys.take l1) = y64 at *
      generalize g6 : Crc.more Crc.P64 64 0 (zs.take l1) = z64 at *
      have HX32 : Hid (Crc.more Crc.P32 32 0 (xs.take l1) = x32) := g1
      have HY32 : Hid (Crc.more Crc.P32 32 0 (ys.take l1) = y32) := g2
      have HZ32 : Hid (Crc.more Crc.P32 32 0 (zs.take l1) = z32) := g3
      have HX64 : Hid (Crc.more Crc.P64 64 0 (xs.take l1) = x64) := g4
      have HY64 : Hid (Crc.more Crc.P64 64 0 (ys.take l1) = y64) := g5
      have HZ64 : Hid (Crc.more Crc.P64 64 0 (zs.take l1) = z64) := g6
      clear g1 g2 g3 g4 g5 g6
      have x1 := xor32 x32 y32 k1 k2
      have x2 := xor32 (x32 ^^^ y32) z32 (Nat.xor_lt_two_pow (n := 32) k1 k2) k3
      have x3 := xor64 x64 y64 k4 k5
      have x4 := xor64 (x64 ^^^ y64) z64 (Nat.xor_lt_two_pow (n := 64) k4 k5) k6
      go_wp2_with fail
      refine wp_region_free (mk := fun u => #[_, _, _, _, _, _, _, _, _, _, u 10, _, _, _, _, _, _, _, _, _, _, _, _, _, _, _, _, _, _, _, _, _, _, _, _, _, _, _, _, _, _, _, _, _, _, _, _, _, _, _, u 50, u 51, u 52, u 53, u 54, u 55, u 56, u 57, u 58, u 59, u 60, u 61, u 62, u 63, u 64, u 65, u 66, _, _, _, _, _, _, _, _, _, _, _, _, _, _, _, _, _, _, _, _, _, _, _, _, _, _, _, _, _, _, _, _]) (F := fun slot v w => (look [(50, .val (.slice a l0 c0)), (51, .val (.int .i64 (l1 : Nat))), (52, .val (.slice a l1 c0)), (53, .pcs [xs.take l1]), (54, .val (.int .u32 (x32 : Nat))), (55, .val (.slice b l1 c1)), (56, .val (.int .i64 (l1 : Nat))), (57, .val (.slice b l1 c1)), (58, .pcs [ys.take l1]), (59, .val (.int .u32 (y32 : Nat))), (60, .val (.int .u32 (x32 ^^^ y32 : Nat))), (61, .val (.slice d l2 c2)), (62, .val (.int .i64 (l1 : Nat))), (63, .val (.slice d l1 c2)), (64, .pcs [zs.take l1]), (65, .val (.int .u32 (z32 : Nat))), (66, .val (.int .u32 (x32 ^^^ y32 ^^^ z32 : Nat))), (10, .val (.int .u32 (x32 ^^^ y32 ^^^ z32 : Nat)))] slot).holds v w) (fun _ => undef) rfl (by kernel_rfl) (by kernel_rfl) ?_ (fun _ v w w' hc h => Fact.stays _ v w w' hc h) ?_ ?_
      · repeat (refine ⟨⟨_, rfl, fun _ _ => rfl⟩, ?_⟩)
        exact trivial
      · refine ⟨?_, ?_, ?_, ?_, ?_, ?_, ?_, ?_, ?_, ?_, ?_, ?_, ?_, ?_, ?_, ?_, ?_, ?_, trivial⟩
        · intro u w hc hd K hK -- 50
          clear hd
          go_simp
          exact hK.out (.slice a l0 c0) w (Chg.refl _ _) rfl
        · intro u w hc hd K hK -- 51
          clear hd
          go_simp
          exact hK.out (.int .i64 (l1 : Nat)) w (Chg.refl _ _) rfl
        · intro u w hc hd K hK -- 52
          have h50 : (Fact.val (.slice a l0 c0)).holds (u 50) w := hd.get 0 (by kernel_rfl)
          simp only [Fact.holds] at h50
          have h51 : (Fact.val (.int .i64 (l1 : Nat))).holds (u 51) w := hd.get 1 (by kernel_rfl)
          simp only [Fact.holds] at h51
          clear hd
          simp only [h50, h51] at hK
          go_simp
          exact hK.out (.slice a l1 c0) w (Chg.refl _ _) rfl
        · intro u w hc hd K hK -- 53
          have h52 : (Fact.val (.slice a l1 c0)).holds (u 52) w := hd.get 2 (by kernel_rfl)
          simp only [Fact.holds] at h52
          clear hd
          simp only [h52] at hK
          go_simp
          exact hK.out _ _ (chg_one w _) ⟨_, rfl, pieces_one 22 ⟨_, _, _, rfl, (up_take xs l1).symm ▸ row8_take (row8_chg hxr hc) l1 (by omega), bx.take l1, by omega⟩⟩
        · intro u w hc hd K hK -- 54
          have h53 : (Fact.pcs [xs.take l1]).holds (u 53) w := hd.get 3 (by kernel_rfl)
          obtain ⟨q53, h53, p53⟩ := h53
          simp only [List.length_cons, List.length_nil, Nat.reduceAdd] at h53
          clear hd
          simp only [h53] at hK
          go_simp
          go_at_call 9
          refine (sum32_any q53 1 1 [xs.take l1] w (hTr.new hc) p53 rfl (by decide)).mono ?_
          rintro e w1 ⟨rfl, rfl⟩
          refine hK.out _ _ (Chg.refl _ _) ?_
          show _ = _
          rw [one, HX32.out]
        · intro u w hc hd K hK -- 55
          clear hd
          go_simp
          exact hK.out (.slice b l1 c1) w (Chg.refl _ _) rfl
        · intro u w hc hd K hK -- 56
          clear hd
          go_simp
          exact hK.out (.int .i64 (l1 : Nat)) w (Chg.refl _ _) rfl
        · intro u w hc hd K hK -- 57
          have h55 : (Fact.val (.slice b l1 c1)).holds (u 55) w := hd.get 5 (by kernel_rfl)
          simp only [Fact.holds] at h55
          have h56 : (Fact.val (.int .i64 (l1 : Nat))).holds (u 56) w := hd.get 6 (by kernel_rfl)
          simp only [Fact.holds] at h56
          clear hd
          simp only [h55, h56] at hK
          go_simp
          exact hK.out (.slice b l1 c1) w (Chg.refl _ _) rfl
        · intro u w hc hd K hK -- 58
          have h57 : (Fact.val (.slice b l1 c1)).holds (u 57) w := hd.get 7 (by kernel_rfl)
          simp only [Fact.holds] at h57
          clear hd
          simp only [h57] at hK
          go_simp
          exact hK.out _ _ (chg_one w _) ⟨_, rfl, pieces_one 22 ⟨_, _, _, rfl, (up_take ys l1).symm ▸ row8_take (row8_chg hyr hc) l1 (by omega), bY.take l1, by omega⟩⟩
        · intro u w hc hd K hK -- 59
          have h58 : (Fact.pcs [ys.take l1]).holds (u 58) w := hd.get 8 (by kernel_rfl)
          obtain ⟨q58, h58, p58⟩ := h58
          simp only [List.length_cons, List.length_nil, Nat.reduceAdd] at h58
          clear hd
          simp only [h58] at hK
          go_simp
          go_at_call 9
          refine (sum32_any q58 1 1 [ys.take l1] w (hTr.new hc) p58 rfl (by decide)).mono ?_
          rintro e w1 ⟨rfl, rfl⟩
          refine hK.out _ _ (Chg.refl _ _) ?_
          show _ = _
          rw [one, HY32.out]
        · intro u w hc hd K hK -- 60
          have h54 : (Fact.val (.int .u32 (x32 : Nat))).holds (u 54) w := hd.get 4 (by kernel_rfl)
          simp only [Fact.holds] at h54
          have h59 : (Fact.val (.int .u32 (y32 : Nat))).holds (u 59) w := hd.get 9 (by kernel_rfl)
          simp only [Fact.holds] at h59
          clear hd
          simp only [h54, h59] at hK
          go_simp
          exact hK.out (.int .u32 (x32 ^^^ y32 : Nat)) w (Chg.refl _ _) rfl
        · intro u w hc hd K hK -- 61
          clear hd
          go_simp
          exact hK.out (.slice d l2 c2) w (Chg.refl _ _) rfl
        · intro u w hc hd K hK -- 62
          clear hd
          go_simp
          exact hK.out (.int .i64 (l1 : Nat)) w (Chg.refl _ _) rfl
        · intro u w hc hd K hK -- 63
          have h61 : (Fact.val (.slice d l2 c2)).holds (u 61) w := hd.get 11 (by kernel_rfl)
          simp only [Fact.holds] at h61
          have h62 : (Fact.val (.int .i64 (l1 : Nat))).holds (u 62) w := hd.get 12 (by kernel_rfl)
          simp only [Fact.holds] at h62
          clear hd
          simp only [h61, h62] at hK
          go_simp
          exact hK.out (.slice d l1 c2) w (Chg.refl _ _) rfl
        · intro u w hc hd K hK -- 64
          have h63 : (Fact.val (.slice d l1 c2)).holds (u 63) w := hd.get 13 (by kernel_rfl)
          simp only [Fact.holds] at h63
          clear hd
          simp only [h63] at hK
          go_simp
          exact hK.out _ _ (chg_one w _) ⟨_, rfl, pieces_one 22 ⟨_, _, _, rfl, (up_take zs l1).symm ▸ row8_take (row8_chg hzr hc) l1 (by omega), bz.take l1, by omega⟩⟩
        · intro u w hc hd K hK -- 65
          have h64 : (Fact.pcs [zs.take l1]).holds (u 64) w := hd.get 14 (by kernel_rfl)
          obtain ⟨q64, h64, p64⟩ := h64
          simp only [List.length_cons, List.length_nil, Nat.reduceAdd] at h64
          clear hd
          simp only [h64] at hK
          go_simp
          go_at_call 9
          refine (sum32_any q64 1 1 [zs.take l1] w (hTr.new hc) p64 rfl (by decide)).mono ?_
          rintro e w1 ⟨rfl, rfl⟩
          refine hK.out _ _ (Chg.refl _ _) ?_
          show _ = _
          rw [one, HZ32.out]
        · intro u w hc hd K hK -- 66
          have h60 : (Fact.val (.int .u32 (x32 ^^^ y32 : Nat))).holds (u 60) w := hd.get 10 (by kernel_rfl)
          simp only [Fact.holds] at h60
          have h65 : (Fact.val (.int .u32 (z32 : Nat))).holds (u 65) w := hd.get 15 (by kernel_rfl)
          simp only [Fact.holds] at h65
          clear hd
          simp only [h60, h65] at hK
          go_simp
          exact hK.out (.int .u32 (x32 ^^^ y32 ^^^ z32 : Nat)) w (Chg.refl _ _) rfl
        · intro u w hc hd K hK -- 10
          have h66 : (Fact.val (.int .u32 (x32 ^^^ y32 ^^^ z32 : Nat))).holds (u 66) w := hd.get 16 (by kernel_rfl)
          simp only [Fact.holds] at h66
          clear hd
          simp only [h66] at hK
          go_simp
          exact hK.out (.int .u32 (x32 ^^^ y32 ^^^ z32 : Nat)) w (Chg.refl _ _) rfl
      · intro u w2 hc hA
        have H10 : (Fact.val (.int .u32 (x32 ^^^ y32 ^^^ z32 : Nat))).holds (u 10) w2 := hA.at 10 (by kernel_rfl)
        simp only [Fact.holds] at H10
        clear hA
        have hTr2 := hTr.new hc
        have hxr2 := row8_chg hxr hc
        have hyr2 := row8_chg hyr hc
        have hzr2 := row8_chg hzr hc
        have HM2 : Hid (Row8 w2 (some ⟨w.heap.size, 0, none⟩) l1 l1 (up (mix xs ys zs l1))) := row8_chg HM.out hc
        have hcw2 := chg_then hcw hc
        clear hTr hxr hyr hzr HM hcw hc
        have hxr := hxr2
        have hyr := hyr2
        have hzr := hzr2
        have hTr := hTr2
        clear hxr2 hyr2 hzr2 hTr2
        simp only [H10]
        clear H10
        go_wp2_with fail
        refine wp_region_free (mk := fun u => #[_, _, _, _, _, _, _, _, _, _, _, u 11, _, _, _, _, _, _, _, _, _, _, _, _, _, _, _, _, _, _, _, _, _, _, _, _, _, _, _, _, _, _, _, _, _, _, _, _, _, _, _, _, _, _, _, _, _, _, _, _, _, _, _, _, _, _, _, u 67, u 68, u 69, u 70, u 71, u 72, u 73, u 74, u 75, u 76, u 77, u 78, u 79, u 80, u 81, u 82, u 83, _, _, _, _, _, _, _, _, _, _, _, _, _, _, _]) (F := fun slot v w => (look [(67, .val (.slice a l0 c0)), (68, .val (.int .i64 (l1 : Nat))), (69, .val (.slice a l1 c0)), (70, .pcs [xs.take l1]), (71, .val (.int .u64 (x64 : Nat))), (72, .val (.slice b l1 c1)), (73, .val (.int .i64 (l1 : Nat))), (74, .val (.slice b l1 c1)), (75, .pcs [ys.take l1]), (76, .val (.int .u64 (y64 : Nat))), (77, .val (.int .u64 (x64 ^^^ y64 : Nat))), (78, .val (.slice d l2 c2)), (79, .val (.int .i64 (l1 : Nat))), (80, .val (.slice d l1 c2)), (81, .pcs [zs.take l1]), (82, .val (.int .u64 (z64 : Nat))), (83, .val (.int .u64 (x64 ^^^ y64 ^^^ z64 : Nat))), (11, .val (.int .u64 (x64 ^^^ y64 ^^^ z64 : Nat)))] slot).holds v w) (fun _ => undef) rfl (by kernel_rfl) (by kernel_rfl) ?_ (fun _ v w w' hc h => Fact.stays _ v w w' hc h) ?_ ?_
        · repeat (refine ⟨⟨_, rfl, fun _ _ => rfl⟩, ?_⟩)
          exact trivial
        · refine ⟨?_, ?_, ?_, ?_, ?_, ?_, ?_, ?_, ?_, ?_, ?_, ?_, ?_, ?_, ?_, ?_, ?_, ?_, trivial⟩
          · intro u w hc hd K hK -- 67
            clear hd
            go_simp
            exact hK.out (.slice a l0 c0) w (Chg.refl _ _) rfl
          · intro u w hc hd K hK -- 68
            clear hd
            go_simp
            exact hK.out (.int .i64 (l1 : Nat)) w (Chg.refl _ _) rfl
          · intro u w hc hd K hK -- 69
            have h67 : (Fact.val (.slice a l0 c0)).holds (u 67) w := hd.get 0 (by kernel_rfl)
            simp only [Fact.holds] at h67
            have h68 : (Fact.val (.int .i64 (l1 : Nat))).holds (u 68) w := hd.get 1 (by kernel_rfl)
            simp only [Fact.holds] at h68
            clear hd
            simp only [h67, h68] at hK
            go_simp
            exact hK.out (.slice a l1 c0) w (Chg.refl _ _) rfl
          · intro u w hc hd K hK -- 70
            have h69 : (Fact.val (.slice a l1 c0)).holds (u 69) w := hd.get 2 (by kernel_rfl)
            simp only [Fact.holds] at h69
            clear hd
            simp only [h69] at hK
            go_simp
            exact hK.out _ _ (chg_one w _) ⟨_, rfl, pieces_one 22 ⟨_, _, _, rfl, (up_take xs l1).symm ▸ row8_take (row8_chg hxr hc) l1 (by omega), bx.take l1, by omega⟩⟩
          · intro u w hc hd K hK -- 71
            have h70 : (Fact.pcs [xs.take l1]).holds (u 70) w := hd.get 3 (by kernel_rfl)
            obtain ⟨q70, h70, p70⟩ := h70
            simp only [List.length_cons, List.length_nil, Nat.reduceAdd] at h70
            clear hd
            simp only [h70] at hK
            go_simp
            go_at_call 10
            refine (sum64_any q70 1 1 [xs.take l1] w (hTr.new hc) p70 rfl (by decide)).mono ?_
            rintro e w1 ⟨rfl, rfl⟩
            refine hK.out _ _ (Chg.refl _ _) ?_
            show _ = _
            rw [one, HX64.out]
          · intro u w hc hd K hK -- 72
            clear hd
            go_simp
            exact hK.out (.slice b l1 c1) w (Chg.refl _ _) rfl
          · intro u w hc hd K hK -- 73
            clear hd
            go_simp
            exact hK.out (.int .i64 (l1 : Nat)) w (Chg.refl _ _) rfl
          · intro u w hc hd K hK -- 74
            have h72 : (Fact.val (.slice b l1 c1)).holds (u 72) w := hd.get 5 (by kernel_rfl)
            simp only [Fact.holds] at h72
            have h73 : (Fact.val (.int .i64 (l1 : Nat))).holds (u 73) w := hd.get 6 (by kernel_rfl)
            simp only [Fact.holds] at h73
            clear hd
            simp only [h72, h73] at hK
            go_simp
            exact hK.out (.slice b l1 c1) w (Chg.refl _ _) rfl
          · intro u w hc hd K hK -- 75
            have h74 : (Fact.val (.slice b l1 c1)).holds (u 74) w := hd.get 7 (by kernel_rfl)
            simp only [Fact.holds] at h74
            clear hd
            simp only [h74] at hK
            go_simp
            exact hK.out _ _ (chg_one w _) ⟨_, rfl, pieces_one 22 ⟨_, _, _, rfl, (up_take ys l1).symm ▸ row8_take (row8_chg hyr hc) l1 (by omega), bY.take l1, by omega⟩⟩
          · intro u w hc hd K hK -- 76
            have h75 : (Fact.pcs [ys.take l1]).holds (u 75) w := hd.get 8 (by kernel_rfl)
            obtain ⟨q75, h75, p75⟩ := h75
            simp only [List.length_cons, List.length_nil, Nat.reduceAdd] at h75
            clear hd
            simp only [h75] at hK
            go_simp
            go_at_call 10
            refine (sum64_any q75 1 1 [ys.take l1] w (hTr.new hc) p75 rfl (by decide)).mono ?_
            rintro e w1 ⟨rfl, rfl⟩
            refine hK.out _ _ (Chg.refl _ _) ?_
            show _ = _
            rw [one, HY64.out]
          · intro u w hc hd K hK -- 77
            have h71 : (Fact.val (.int .u64 (x64 : Nat))).holds (u 71) w := hd.get 4 (by kernel_rfl)
            simp only [Fact.holds] at h71
            have h76 : (Fact.val (.int .u64 (y64 : Nat))).holds (u 76) w := hd.get 9 (by kernel_rfl)
            simp only [Fact.holds] at h76
            clear hd
            simp only [h71, h76] at hK
            go_simp
            exact hK.out (.int .u64 (x64 ^^^ y64 : Nat)) w (Chg.refl _ _) rfl
          · intro u w hc hd K hK -- 78
            clear hd
            go_simp
            exact hK.out (.slice d l2 c2) w (Chg.refl _ _) rfl
          · intro u w hc hd K hK -- 79
            clear hd
            go_simp
            exact hK.out (.int .i64 (l1 : Nat)) w (Chg.refl _ _) rfl
          · intro u w hc hd K hK -- 80
            have h78 : (Fact.val (.slice d l2 c2)).holds (u 78) w := hd.get 11 (by kernel_rfl)
            simp only [Fact.holds] at h78
            have h79 : (Fact.val (.int .i64 (l1 : Nat))).holds (u 79) w := hd.get 12 (by kernel_rfl)
            simp only [Fact.holds] at h79
            clear hd
            simp only [h78, h79] at hK
            go_simp
            exact hK.out (.slice d l1 c2) w (Chg.refl _ _) rfl
          · intro u w hc hd K hK -- 81
            have h80 : (Fact.val (.slice d l1 c2)).holds (u 80) w := hd.get 13 (by kernel_rfl)
            simp only [Fact.holds] at h80
            clear hd
            simp only [h80] at hK
            go_simp
            exact hK.out _ _ (chg_one w _) ⟨_, rfl, pieces_one 22 ⟨_, _, _, rfl, (up_take zs l1).symm ▸ row8_take (row8_chg hzr hc) l1 (by omega), bz.take l1, by omega⟩⟩
          · intro u w hc hd K hK -- 82
            have h81 : (Fact.pcs [zs.take l1]).holds (u 81) w := hd.get 14 (by kernel_rfl)
            obtain ⟨q81, h81, p81⟩ := h81
            simp only [List.length_cons, List.length_nil, Nat.reduceAdd] at h81
            clear hd
            simp only [h81] at hK
            go_simp
            go_at_call 10
            refine (sum64_any q81 1 1 [zs.take l1] w (hTr.new hc) p81 rfl (by decide)).mono ?_
            rintro e w1 ⟨rfl, rfl⟩
            refine hK.out _ _ (Chg.refl _ _) ?_
            show _ = _
            rw [one, HZ64.out]
          · intro u w hc hd K hK -- 83
            have h77 : (Fact.val (.int .u64 (x64 ^^^ y64 : Nat))).holds (u 77) w := hd.get 10 (by kernel_rfl)
            simp only [Fact.holds] at h77
            have h82 : (Fact.val (.int .u64 (z64 : Nat))).holds (u 82) w := hd.get 15 (by kernel_rfl)
            simp only [Fact.holds] at h82
            clear hd
            simp only [h77, h82] at hK
            go_simp
            exact hK.out (.int .u64 (x64 ^^^ y64 ^^^ z64 : Nat)) w (Chg.refl _ _) rfl
          · intro u w hc hd K hK -- 11
            have h83 : (Fact.val (.int .u64 (x64 ^^^ y64 ^^^ z64 : Nat))).holds (u 83) w := hd.get 16 (by kernel_rfl)
            simp only [Fact.holds] at h83
            clear hd
            simp only [h83] at hK
            go_simp
            exact hK.out (.int .u64 (x64 ^^^ y64 ^^^ z64 : Nat)) w (Chg.refl _ _) rfl
        · intro u' w3 hc hA
          have H11 : (Fact.val (.int .u64 (x64 ^^^ y64 ^^^ z64 : Nat))).holds (u' 11) w3 := hA.at 11 (by kernel_rfl)
          simp only [Fact.holds] at H11
          clear hA
          have hT3 := hTr.new hc
          have r3 : Row8 w3 (some ⟨w.heap.size, 0, none⟩) l1 l1 (up (mix xs ys zs l1)) := row8_chg HM2.out hc
          have cw3 := chg_then hcw2 hc
          clear hTr hxr hyr hzr HM2 hcw2 hc
          simp only [H11]
          clear H11
          go_wp2_with fail
          refine (sum32_any _ 1 1 [mix xs ys zs l1] _ (hT3.new (chg_one w3 _)) (pieces_one 22 ⟨_, _, _, rfl, r3, hD, by omega⟩) rfl (by decide)).mono ?_
          rintro e w4 ⟨rfl, rfl⟩
          rw [one, E32.out]
          have c4 := chg_one w3 (.cells #[.slice (some ⟨w.heap.size, 0, none⟩) l1 l1] 22)
          have hT4 := hT3.new c4
          have r4 := row8_chg r3 c4
          have cw4 := chg_then cw3 c4
          clear hT3 r3 c4 cw3
          generalize hw4 : w3.alloc (.cells #[.slice (some ⟨w.heap.size, 0, none⟩) l1 l1] 22) = w4 at *
          clear hw4
          go_wp2_with fail
          refine (sum64_any _ 1 1 [mix xs ys zs l1] _ (hT4.new (chg_one w4 _)) (pieces_one 22 ⟨_, _, _, rfl, r4, hD, by omega⟩) rfl (by decide)).mono ?_
          rintro e w5 ⟨rfl, rfl⟩
          rw [one, E64.out]
          have c5 := chg_one w4 (.cells #[.slice (some ⟨w.heap.size, 0, none⟩) l1 l1] 22)
          have hT5 := hT4.new c5
          have cw5 := chg_then cw4 c5
          clear hT4 r4 c5 cw4
          generalize hw5 : w4.alloc (.cells #[.slice (some ⟨w.heap.size, 0, none⟩) l1 l1] 22) = w5 at *
          clear hw5
          go_wp2_with fail
          refine (fixed_any w5 hT5).mono ?_
          rintro e w6 ⟨rfl, c6⟩
          go_wp2
          go_ret
          exact ⟨rfl, chg_then cw5 c6⟩

set_option maxHeartbeats 8000000 in
set_option maxRecDepth 100000 in
theorem walk3 (a b d : Option Addr) (l0 l1 l2 c0 c1 c2 : Nat) (xs ys zs : List Nat) (w : World) (hT : Tab w) (hx : Row8 w a l0 c0 (up xs)) (hy : Row8 w b l1 c1 (up ys)) (hz : Row8 w d l2 c2 (up zs)) (bx : Byt xs) (bY : Byt ys) (bz : Byt zs)
    (n0 : l0 ≤ 140737488351232) (n1 : l1 ≤ 140737488351232) (n2 : l2 ≤ 140737488351232) (m0 : l0 ≤ c0) (m1 : l1 ≤ c1) (m2 : l2 ≤ c2) (h1 : ¬ l1 < l0) (h2 : l2 < l0) :
    Calls Tryd.prog 3 #[.slice a l0 c0, .slice b l1 c1, .slice d l2 c2] w fun e w' => e = .returned (.bool true) ∧ Chg (fun _ => False) w w' := by
  obtain ⟨i0, hi, hz0, hz1, hz2⟩ := info_parts info5
  have lx : xs.length = l0 := by rw [← up_length]; exact hx.1
  have ly : ys.length = l1 := by rw [← up_length]; exact hy.1
  have lz : zs.length = l2 := by rw [← up_length]; exact hz.1
  have e32 := sum32 (x := xs) (y := ys) (z := zs) (N := l2) (by omega) (by omega) (by omega)
  have e64 := sum64 (x := xs) (y := ys) (z := zs) (N := l2) (by omega) (by omega) (by omega)
  have lm := mix_length (x := xs) (y := ys) (z := zs) (N := l2) (by omega) (by omega) (by omega)
  have hD := mix_byt (N := l2) bx bY bz
  have k1 := more32_lt (s := 0) (bx.take l2) (by decide)
  have k2 := more32_lt (s := 0) (bY.take l2) (by decide)
  have k3 := more32_lt (s := 0) (bz.take l2) (by decide)
  have k4 := more64_lt (s := 0) (bx.take l2) (by decide)
  have k5 := more64_lt (s := 0) (bY.take l2) (by decide)
  have k6 := more64_lt (s := 0) (bz.take l2) (by decide)
  have o1 := own_of_blk (heap_alloc_last w (.cells (cells8 (up (List.replicate l2 0))).toArray 5)) (Nat.le_refl _) (n := l2) (by simp [up]) (by omega)
  have hmk := make8 l2 (by omega) w
  have c1' := chg_one w (.cells (cells8 (up (List.replicate l2 0))).toArray 5)
  generalize hA : (cells8 (up (List.replicate l2 0))).toArray = A at *
  go_enter Tryd.func3, Tryd.ntmps3
  go_wp2
  clear hmk hA
  generalize w.alloc (.cells A 5) = w1 at *
  have HLX : Hid (xs.length = l0) := lx
  have HLY : Hid (ys.length = l1) := ly
  have HLZ : Hid (zs.length = l2) := lz
  have HLM : Hid ((mix xs ys zs l2).length = l2) := lm
  have E32 : Hid (Crc.more Crc.P32 32 0 (mix xs ys zs l2) = _) := e32
  have E64 : Hid (Crc.more Crc.P64 64 0 (mix xs ys zs l2) = _) := e64
  have ho0 : Hid (w1.ownsRow w.heap.size 5 1 (.slice (some ⟨w.heap.size, 0, none⟩) l2 l2) l2 (cells8 (up ((mix xs ys zs l2).take 0 ++ List.replicate (l2 - 0) 0)))) := by
    show World.ownsRow _ _ _ _ _ _ _
    simpa using o1
  clear lx ly lz lm e32 e64 o1
  go_loopw [9] (fun j wr => ∃ k : Nat, k ≤ l2 ∧ j = .int .i64 k ∧ Hid (wr.ownsRow w.heap.size 5 1 (.slice (some ⟨w.heap.size, 0, none⟩) l2 l2) l2 (cells8 (up ((mix xs ys zs l2).take k ++ List.replicate (l2 - k) 0)))) ∧ Chg (fun _ => False) w wr) (fun j _ => l2 - (intOf j).toNat)
  case atStart => exact ⟨0, by omega, rfl, ho0, c1'⟩
  case round =>
    clear ho0 c1'
    obtain ⟨k, hk, rfl, HO, hcw⟩ := hrel
    by_cases hlt : k < l2
    · obtain ⟨ax, rfl⟩ := cell_some hx k (by omega)
      obtain ⟨ay, rfl⟩ := cell_some hy k (by omega)
      obtain ⟨az, rfl⟩ := cell_some hz k (by omega)
      have jx : k < xs.length := by rw [HLX.out]; omega
      have jy : k < ys.length := by rw [HLY.out]; omega
      have jz : k < zs.length := by rw [HLZ.out]; omega
      have jm : k < (mix xs ys zs l2).length := by rw [HLM.out]; exact hlt
      have q1 := cell_at (row8_chg hx hcw) k jx
      have q2 := cell_at (row8_chg hy hcw) k jy
      have q3 := cell_at (row8_chg hz hcw) k jz
      have r1 := bx.at k jx
      have r2 := bY.at k jy
      have r3 := bz.at k jz
      have x1 := u8xor _ _ r1 r2
      have r12 : xs[k] ^^^ ys[k] < 256 := Nat.xor_lt_two_pow (n := 8) r1 r2
      have x2 := u8xor _ _ r12 r3
      have hAt := mix_at (x := xs) (y := ys) (z := zs) (N := l2) (by rw [HLX.out]; omega) (by rw [HLY.out]; omega) (by rw [HLZ.out]; omega) hlt jm
      obtain ⟨g, cap, hv, hBg, hcell, hfr, hset⟩ := own_set HO.out k hlt
      simp only [Value.slice.injEq, Option.some.injEq, Addr.mk.injEq, and_true, true_and] at hv
      obtain ⟨rfl, rfl⟩ := hv
      have hcl := hcell (0 : Int) (fill_get _ _ k hlt HLM.out)
      have HO2 : Hid ((wr.setCell ⟨w.heap.size, k, none⟩ (.int .u8 ((xs[k] ^^^ ys[k] ^^^ zs[k] : Nat) : Int))).ownsRow w.heap.size 5 1 (.slice (some ⟨w.heap.size, 0, none⟩) l2 l2) l2 (cells8 (up ((mix xs ys zs l2).take (k + 1) ++ List.replicate (l2 - (k + 1)) 0)))) := by
        show World.ownsRow _ _ _ _ _ _ _
        rw [← fill_set _ _ k jm HLM.out, ← up_set, hAt]
        exact hset _
      have HC2 : Hid (Chg (fun _ => False) w (wr.setCell ⟨w.heap.size, k, none⟩ (.int .u8 ((xs[k] ^^^ ys[k] ^^^ zs[k] : Nat) : Int)))) := hcw.setCell (.inr (Nat.le_refl _)) _
      clear hset hcell hAt HO
      generalize xs[k] ^^^ ys[k] ^^^ zs[k] = t2 at *
      generalize xs[k] ^^^ ys[k] = t1 at *
      generalize xs[k] = p1 at *
      generalize ys[k] = p2 at *
      generalize zs[k] = p3 at *
      clear hx hy hz hT bx bY bz hD k1 k2 k3 k4 k5 k6 E32 E64
      go_wp2_with fail
      go_region
      go_wp2
      go_roundw
      case rel => exact ⟨k + 1, by omega, by go_num, HO2, HC2.out.drew⟩
      case measure => simp [intOf]; omega
    · obtain rfl : l2 = k := by omega
      have HM : Hid (Row8 wr (some ⟨w.heap.size, 0, none⟩) l2 l2 (up (mix xs ys zs l2))) := by
        show Row8 _ _ _ _ _
        obtain ⟨ad, c', hv, hr, -⟩ := own_row8c HO.out
        simp only [Value.slice.injEq, true_and] at hv
        obtain ⟨rfl, rfl⟩ := hv
        rw [List.take_of_length_le (by rw [HLM.out]; exact Nat.le_refl _)] at hr
        simpa using hr
      have s0 : l2 ≤ c0 := by omega
      have s1 : l2 ≤ c1 := by omega
      have s2 : l2 ≤ c2 := by omega
      have hxr := row8_chg hx hcw
      have hyr := row8_chg hy hcw
      have hzr := row8_chg hz hcw
      have hTr := hT.new hcw
      clear HO hx hy hz hT
      generalize g1 : Crc.more Crc.P32 32 0 (xs.take l2) = x32 at *
      generalize g2 : Crc.more Crc.P32 32 0 (ys.take l2) = y32 at *
      generalize g3 : Crc.more Crc.P32 32 0 (zs.take l2) = z32 at *
      generalize g4 : Crc.more Crc.P64 64 0 (xs.take l2) = x64 at *
      generalize g5 : Crc.more Crc.P64 64 0 (ys.take l2) = y64 at *
      generalize g6 : Crc.more Crc.P64 64 0 (zs.take l2) = z64 at *
      have HX32 : Hid (Crc.more Crc.P32 32 0 (xs.take l2) = x32) := g1
      have HY32 : Hid (Crc.more Crc.P32 32 0 (ys.take l2) = y32) := g2
      have HZ32 : Hid (Crc.more Crc.P32 32 0 (zs.take l2) = z32) := g3
      have HX64 : Hid (Crc.more Crc.P64 64 0 (xs.take l2) = x64) := g4
      have HY64 : Hid (Crc.more Crc.P64 64 0 (ys.take l2) = y64) := g5
      have HZ64 : Hid (Crc.more Crc.P64 64 0 (zs.take l2) = z64) := g6
      clear g1 g2 g3 g4 g5 g6
      have x1 := xor32 x32 y32 k1 k2
      have x2 := xor32 (x32 ^^^ y32) z32 (Nat.xor_lt_two_pow (n := 32) k1 k2) k3
      have x3 := xor64 x64 y64 k4 k5
      have x4 := xor64 (x64 ^^^ y64) z64 (Nat.xor_lt_two_pow (n := 64) k4 k5) k6
      go_wp2_with fail
      refine wp_region_free (mk := fun u => #[_, _, _, _, _, _, _, _, _, _, u 10, _, _, _, _, _, _, _, _, _, _, _, _, _, _, _, _, _, _, _, _, _, _, _, _, _, _, _, _, _, _, _, _, _, _, _, _, _, _, _, u 50, u 51, u 52, u 53, u 54, u 55, u 56, u 57, u 58, u 59, u 60, u 61, u 62, u 63, u 64, u 65, u 66, _, _, _, _, _, _, _, _, _, _, _, _, _, _, _, _, _, _, _, _, _, _, _, _, _, _, _, _, _, _, _, _]) (F := fun slot v w => (look [(50, .val (.slice a l0 c0)), (51, .val (.int .i64 (l2 : Nat))), (52, .val (.slice a l2 c0)), (53, .pcs [xs.take l2]), (54, .val (.int .u32 (x32 : Nat))), (55, .val (.slice b l1 c1)), (56, .val (.int .i64 (l2 : Nat))), (57, .val (.slice b l2 c1)), (58, .pcs [ys.take l2]), (59, .val (.int .u32 (y32 : Nat))), (60, .val (.int .u32 (x32 ^^^ y32 : Nat))), (61, .val (.slice d l2 c2)), (62, .val (.int .i64 (l2 : Nat))), (63, .val (.slice d l2 c2)), (64, .pcs [zs.take l2]), (65, .val (.int .u32 (z32 : Nat))), (66, .val (.int .u32 (x32 ^^^ y32 ^^^ z32 : Nat))), (10, .val (.int .u32 (x32 ^^^ y32 ^^^ z32 : Nat)))] slot).holds v w) (fun _ => undef) rfl (by kernel_rfl) (by kernel_rfl) ?_ (fun _ v w w' hc h => Fact.stays _ v w w' hc h) ?_ ?_
      · repeat (refine ⟨⟨_, rfl, fun _ _ => rfl⟩, ?_⟩)
        exact trivial
      · refine ⟨?_, ?_, ?_, ?_, ?_, ?_, ?_, ?_, ?_, ?_, ?_, ?_, ?_, ?_, ?_, ?_, ?_, ?_, trivial⟩
        · intro u w hc hd K hK -- 50
          clear hd
          go_simp
          exact hK.out (.slice a l0 c0) w (Chg.refl _ _) rfl
        · intro u w hc hd K hK -- 51
          clear hd
          go_simp
          exact hK.out (.int .i64 (l2 : Nat)) w (Chg.refl _ _) rfl
        · intro u w hc hd K hK -- 52
          have h50 : (Fact.val (.slice a l0 c0)).holds (u 50) w := hd.get 0 (by kernel_rfl)
          simp only [Fact.holds] at h50
          have h51 : (Fact.val (.int .i64 (l2 : Nat))).holds (u 51) w := hd.get 1 (by kernel_rfl)
          simp only [Fact.holds] at h51
          clear hd
          simp only [h50, h51] at hK
          go_simp
          exact hK.out (.slice a l2 c0) w (Chg.refl _ _) rfl
        · intro u w hc hd K hK -- 53
          have h52 : (Fact.val (.slice a l2 c0)).holds (u 52) w := hd.get 2 (by kernel_rfl)
          simp only [Fact.holds] at h52
          clear hd
          simp only [h52] at hK
          go_simp
          exact hK.out _ _ (chg_one w _) ⟨_, rfl, pieces_one 22 ⟨_, _, _, rfl, (up_take xs l2).symm ▸ row8_take (row8_chg hxr hc) l2 (by omega), bx.take l2, by omega⟩⟩
        · intro u w hc hd K hK -- 54
          have h53 : (Fact.pcs [xs.take l2]).holds (u 53) w := hd.get 3 (by kernel_rfl)
          obtain ⟨q53, h53, p53⟩ := h53
          simp only [List.length_cons, List.length_nil, Nat.reduceAdd] at h53
          clear hd
          simp only [h53] at hK
          go_simp
          go_at_call 9
          refine (sum32_any q53 1 1 [xs.take l2] w (hTr.new hc) p53 rfl (by decide)).mono ?_
          rintro e w1 ⟨rfl, rfl⟩
          refine hK.out _ _ (Chg.refl _ _) ?_
          show _ = _
          rw [one, HX32.out]
        · intro u w hc hd K hK -- 55
          clear hd
          go_simp
          exact hK.out (.slice b l1 c1) w (Chg.refl _ _) rfl
        · intro u w hc hd K hK -- 56
          clear hd
          go_simp
          exact hK.out (.int .i64 (l2 : Nat)) w (Chg.refl _ _) rfl
        · intro u w hc hd K hK -- 57
          have h55 : (Fact.val (.slice b l1 c1)).holds (u 55) w := hd.get 5 (by kernel_rfl)
          simp only [Fact.holds] at h55
          have h56 : (Fact.val (.int .i64 (l2 : Nat))).holds (u 56) w := hd.get 6 (by kernel_rfl)
          simp only [Fact.holds] at h56
          clear hd
          simp only [h55, h56] at hK
          go_simp
          exact hK.out (.slice b l2 c1) w (Chg.refl _ _) rfl
        · intro u w hc hd K hK -- 58
          have h57 : (Fact.val (.slice b l2 c1)).holds (u 57) w := hd.get 7 (by kernel_rfl)
          simp only [Fact.holds] at h57
          clear hd
          simp only [h57] at hK
          go_simp
          exact hK.out _ _ (chg_one w _) ⟨_, rfl, pieces_one 22 ⟨_, _, _, rfl, (up_take ys l2).symm ▸ row8_take (row8_chg hyr hc) l2 (by omega), bY.take l2, by omega⟩⟩
        · intro u w hc hd K hK -- 59
          have h58 : (Fact.pcs [ys.take l2]).holds (u 58) w := hd.get 8 (by kernel_rfl)
          obtain ⟨q58, h58, p58⟩ := h58
          simp only [List.length_cons, List.length_nil, Nat.reduceAdd] at h58
          clear hd
          simp only [h58] at hK
          go_simp
          go_at_call 9
          refine (sum32_any q58 1 1 [ys.take l2] w (hTr.new hc) p58 rfl (by decide)).mono ?_
          rintro e w1 ⟨rfl, rfl⟩
          refine hK.out _ _ (Chg.refl _ _) ?_
          show _ = _
          rw [one, HY32.out]
        · intro u w hc hd K hK -- 60
          have h54 : (Fact.val (.int .u32 (x32 : Nat))).holds (u 54) w := hd.get 4 (by kernel_rfl)
          simp only [Fact.holds] at h54
          have h59 : (Fact.val (.int .u32 (y32 : Nat))).holds (u 59) w := hd.get 9 (by kernel_rfl)
          simp only [Fact.holds] at h59
          clear hd
          simp only [h54, h59] at hK
          go_simp
          exact hK.out (.int .u32 (x32 ^^^ y32 : Nat)) w (Chg.refl _ _) rfl
        · intro u w hc hd K hK -- 61
          clear hd
          go_simp
          exact hK.out (.slice d l2 c2) w (Chg.refl _ _) rfl
        · intro u w hc hd K hK -- 62
          clear hd
          go_simp
          exact hK.out (.int .i64 (l2 : Nat)) w (Chg.refl _ _) rfl
        · intro u w hc hd K hK -- 63
          have h61 : (Fact.val (.slice d l2 c2)).holds (u 61) w := hd.get 11 (by kernel_rfl)
          simp only [Fact.holds] at h61
          have h62 : (Fact.val (.int .i64 (l2 : Nat))).holds (u 62) w := hd.get 12 (by kernel_rfl)
          simp only [Fact.holds] at h62
          clear hd
          simp only [h61, h62] at hK
          go_simp
          exact hK.out (.slice d l2 c2) w (Chg.refl _ _) rfl
        · intro u w hc hd K hK -- 64
          have h63 : (Fact.val (.slice d l2 c2)).holds (u 63) w := hd.get 13 (by kernel_rfl)
          simp only [Fact.holds] at h63
          clear hd
          simp only [h63] at hK
          go_simp
          exact hK.out _ _ (chg_one w _) ⟨_, rfl, pieces_one 22 ⟨_, _, _, rfl, (up_take zs l2).symm ▸ row8_take (row8_chg hzr hc) l2 (by omega), bz.take l2, by omega⟩⟩
        · intro u w hc hd K hK -- 65
          have h64 : (Fact.pcs [zs.take l2]).holds (u 64) w := hd.get 14 (by kernel_rfl)
          obtain ⟨q64, h64, p64⟩ := h64
          simp only [List.length_cons, List.length_nil, Nat.reduceAdd] at h64
          clear hd
          simp only [h64] at hK
          go_simp
          go_at_call 9
          refine (sum32_any q64 1 1 [zs.take l2] w (hTr.new hc) p64 rfl (by decide)).mono ?_
          rintro e w1 ⟨rfl, rfl⟩
          refine hK.out _ _ (Chg.refl _ _) ?_
          show _ = _
          rw [one, HZ32.out]
        · intro u w hc hd K hK -- 66
          have h60 : (Fact.val (.int .u32 (x32 ^^^ y32 : Nat))).holds (u 60) w := hd.get 10 (by kernel_rfl)
          simp only [Fact.holds] at h60
          have h65 : (Fact.val (.int .u32 (z32 : Nat))).holds (u 65) w := hd.get 15 (by kernel_rfl)
          simp only [Fact.holds] at h65
          clear hd
          simp only [h60, h65] at hK
          go_simp
          exact hK.out (.int .u32 (x32 ^^^ y32 ^^^ z32 : Nat)) w (Chg.refl _ _) rfl
        · intro u w hc hd K hK -- 10
          have h66 : (Fact.val (.int .u32 (x32 ^^^ y32 ^^^ z32 : Nat))).holds (u 66) w := hd.get 16 (by kernel_rfl)
          simp only [Fact.holds] at h66
          clear hd
          simp only [h66] at hK
          go_simp
          exact hK.out (.int .u32 (x32 ^^^ y32 ^^^ z32 : Nat)) w (Chg.refl _ _) rfl
      · intro u w2 hc hA
        have H10 : (Fact.val (.int .u32 (x32 ^^^ y32 ^^^ z32 : Nat))).holds (u 10) w2 := hA.at 10 (by kernel_rfl)
        simp only [Fact.holds] at H10
        clear hA
        have hTr2 := hTr.new hc
        have hxr2 := row8_chg hxr hc
        have hyr2 := row8_chg hyr hc
        have hzr2 := row8_chg hzr hc
        have HM2 : Hid (Row8 w2 (some ⟨w.heap.size, 0, none⟩) l2 l2 (up (mix xs ys zs l2))) := row8_chg HM.out hc
        have hcw2 := chg_then hcw hc
        clear hTr hxr hyr hzr HM hcw hc
        have hxr := hxr2
        have hyr := hyr2
        have hzr := hzr2
        have hTr := hTr2
        clear hxr2 hyr2 hzr2 hTr2
        simp only [H10]
        clear H10
        go_wp2_with fail
        refine wp_region_free (mk := fun u => #[_, _, _, _, _, _, _, _, _, _, _, u 11, _, _, _, _, _, _, _, _, _, _, _, _, _, _, _, _, _, _, _, _, _, _, _, _, _, _, _, _, _, _, _, _, _, _, _, _, _, _, _, _, _, _, _, _, _, _, _, _, _, _, _, _, _, _, _, u 67, u 68, u 69, u 70, u 71, u 72, u 73, u 74, u 75, u 76, u 77, u 78, u 79, u 80, u 81, u 82, u 83, _, _, _, _, _, _, _, _, _, _, _, _, _, _, _]) (F := fun slot v w => (look [(67, .val (.slice a l0 c0)), (68, .val (.int .i64 (l2 : Nat))), (69, .val (.slice a l2 c0)), (70, .pcs [xs.take l2]), (71, .val (.int .u64 (x64 : Nat))), (72, .val (.slice b l1 c1)), (73, .val (.int .i64 (l2 : Nat))), (74, .val (.slice b l2 c1)), (75, .pcs [ys.take l2]), (76, .val (.int .u64 (y64 : Nat))), (77, .val (.int .u64 (x64 ^^^ y64 : Nat))), (78, .val (.slice d l2 c2)), (79, .val (.int .i64 (l2 : Nat))), (80, .val (.slice d l2 c2)), (81, .pcs [zs.take l2]), (82, .val (.int .u64 (z64 : Nat))), (83, .val (.int .u64 (x64 ^^^ y64 ^^^ z64 : Nat))), (11, .val (.int .u64 (x64 ^^^ y64 ^^^ z64 : Nat)))] slot).holds v w) (fun _ => undef) rfl (by kernel_rfl) (by kernel_rfl) ?_ (fun _ v w w' hc h => Fact.stays _ v w w' hc h) ?_ ?_
        · repeat (refine ⟨⟨_, rfl, fun _ _ => rfl⟩, ?_⟩)
          exact trivial
        · refine ⟨?_, ?_, ?_, ?_, ?_, ?_, ?_, ?_, ?_, ?_, ?_, ?_, ?_, ?_, ?_, ?_, ?_, ?_, trivial⟩
          · intro u w hc hd K hK -- 67
            clear hd
            go_simp
            exact hK.out (.slice a l0 c0) w (Chg.refl _ _) rfl
          · intro u w hc hd K hK -- 68
            clear hd
            go_simp
            exact hK.out (.int .i64 (l2 : Nat)) w (Chg.refl _ _) rfl
          · intro u w hc hd K hK -- 69
            have h67 : (Fact.val (.slice a l0 c0)).holds (u 67) w := hd.get 0 (by kernel_rfl)
            simp only [Fact.holds] at h67
            have h68 : (Fact.val (.int .i64 (l2 : Nat))).holds (u 68) w := hd.get 1 (by kernel_rfl)
            simp only [Fact.holds] at h68
            clear hd
            simp only [h67, h68] at hK
            go_simp
            exact hK.out (.slice a l2 c0) w (Chg.refl _ _) rfl
          · intro u w hc hd K hK -- 70
            have h69 : (Fact.val (.slice a l2 c0)).holds (u 69) w := hd.get 2 (by kernel_rfl)
            simp only [Fact.holds] at h69
            clear hd
            simp only [h69] at hK
            go_simp
            exact hK.out _ _ (chg_one w _) ⟨_, rfl, pieces_one 22 ⟨_, _, _, rfl, (up_take xs l2).symm ▸ row8_take (row8_chg hxr hc) l2 (by omega), bx.take l2, by omega⟩⟩
          · intro u w hc hd K hK -- 71
            have h70 : (Fact.pcs [xs.take l2]).holds (u 70) w := hd.get 3 (by kernel_rfl)
            obtain ⟨q70, h70, p70⟩ := h70
            simp only [List.length_cons, List.length_nil, Nat.reduceAdd] at h70
            clear hd
            simp only [h70] at hK
            go_simp
            go_at_call 10
            refine (sum64_any q70 1 1 [xs.take l2] w (hTr.new hc) p70 rfl (by decide)).mono ?_
            rintro e w1 ⟨rfl, rfl⟩
            refine hK.out _ _ (Chg.refl _ _) ?_
            show _ = _
            rw [one, HX64.out]
          · intro u w hc hd K hK -- 72
            clear hd
            go_simp
            exact hK.out (.slice b l1 c1) w (Chg.refl _ _) rfl
          · intro u w hc hd K hK -- 73
            clear hd
            go_simp
            exact hK.out (.int .i64 (l2 : Nat)) w (Chg.refl _ _) rfl
          · intro u w hc hd K hK -- 74
            have h72 : (Fact.val (.slice b l1 c1)).holds (u 72) w := hd.get 5 (by kernel_rfl)
            simp only [Fact.holds] at h72
            have h73 : (Fact.val (.int .i64 (l2 : Nat))).holds (u 73) w := hd.get 6 (by kernel_rfl)
            simp only [Fact.holds] at h73
            clear hd
            simp only [h72, h73] at hK
            go_simp
            exact hK.out (.slice b l2 c1) w (Chg.refl _ _) rfl
          · intro u w hc hd K hK -- 75
            have h74 : (Fact.val (.slice b l2 c1)).holds (u 74) w := hd.get 7 (by kernel_rfl)
            simp only [Fact.holds] at h74
            clear hd
            simp only [h74] at hK
            go_simp
            exact hK.out _ _ (chg_one w _) ⟨_, rfl, pieces_one 22 ⟨_, _, _, rfl, (up_take ys l2).symm ▸ row8_take (row8_chg hyr hc) l2 (by omega), bY.take l2, by omega⟩⟩
          · intro u w hc hd K hK -- 76
            have h75 : (Fact.pcs [ys.take l2]).holds (u 75) w := hd.get 8 (by kernel_rfl)
            obtain ⟨q75, h75, p75⟩ := h75
            simp only [List.length_cons, List.length_nil, Nat.reduceAdd] at h75
            clear hd
            simp only [h75] at hK
            go_simp
            go_at_call 10
            refine (sum64_any q75 1 1 [ys.take l2] w (hTr.new hc) p75 rfl (by decide)).mono ?_
            rintro e w1 ⟨rfl, rfl⟩
            refine hK.out _ _ (Chg.refl _ _) ?_
            show _ = _
            rw [one, HY64.out]
          · intro u w hc hd K hK -- 77
            have h71 : (Fact.val (.int .u64 (x64 : Nat))).holds (u 71) w := hd.get 4 (by kernel_rfl)
            simp only [Fact.holds] at h71
            have h76 : (Fact.val (.int .u64 (y64 : Nat))).holds (u 76) w := hd.get 9 (by kernel_rfl)
            simp only [Fact.holds] at h76
            clear hd
            simp only [h71, h76] at hK
            go_simp
            exact hK.out (.int .u64 (x64 ^^^ y64 : Nat)) w (Chg.refl _ _) rfl
          · intro u w hc hd K hK -- 78
            clear hd
            go_simp
            exact hK.out (.slice d l2 c2) w (Chg.refl _ _) rfl
          · intro u w hc hd K hK -- 79
            clear hd
            go_simp
            exact hK.out (.int .i64 (l2 : Nat)) w (Chg.refl _ _) rfl
          · intro u w hc hd K hK -- 80
            have h78 : (Fact.val (.slice d l2 c2)).holds (u 78) w := hd.get 11 (by kernel_rfl)
            simp only [Fact.holds] at h78
            have h79 : (Fact.val (.int .i64 (l2 : Nat))).holds (u 79) w := hd.get 12 (by kernel_rfl)
            simp only [Fact.holds] at h79
            clear hd
            simp only [h78, h79] at hK
            go_simp
            exact hK.out (.slice d l2 c2) w (Chg.refl _ _) rfl
          · intro u w hc hd K hK -- 81
            have h80 : (Fact.val (.slice d l2 c2)).holds (u 80) w := hd.get 13 (by kernel_rfl)
            simp only [Fact.holds] at h80
            clear hd
            simp only [h80] at hK
            go_simp
            exact hK.out _ _ (chg_one w _) ⟨_, rfl, pieces_one 22 ⟨_, _, _, rfl, (up_take zs l2).symm ▸ row8_take (row8_chg hzr hc) l2 (by omega), bz.take l2, by omega⟩⟩
          · intro u w hc hd K hK -- 82
            have h81 : (Fact.pcs [zs.take l2]).holds (u 81) w := hd.get 14 (by kernel_rfl)
            obtain ⟨q81, h81, p81⟩ := h81
            simp only [List.length_cons, List.length_nil, Nat.reduceAdd] at h81
            clear hd
            simp only [h81] at hK
            go_simp
            go_at_call 10
            refine (sum64_any q81 1 1 [zs.take l2] w (hTr.new hc) p81 rfl (by decide)).mono ?_
            rintro e w1 ⟨rfl, rfl⟩
            refine hK.out _ _ (Chg.refl _ _) ?_
            show _ = _
            rw [one, HZ64.out]
          · intro u w hc hd K hK -- 83
            have h77 : (Fact.val (.int .u64 (x64 ^^^ y64 : Nat))).holds (u 77) w := hd.get 10 (by kernel_rfl)
            simp only [Fact.holds] at h77
            have h82 : (Fact.val (.int .u64 (z64 : Nat))).holds (u 82) w := hd.get 15 (by kernel_rfl)
            simp only [Fact.holds] at h82
            clear hd
            simp only [h77, h82] at hK
            go_simp
            exact hK.out (.int .u64 (x64 ^^^ y64 ^^^ z64 : Nat)) w (Chg.refl _ _) rfl
          · intro u w hc hd K hK -- 11
            have h83 : (Fact.val (.int .u64 (x64 ^^^ y64 ^^^ z64 : Nat))).holds (u 83) w := hd.get 16 (by kernel_rfl)
            simp only [Fact.holds] at h83
            clear hd
            simp only [h83] at hK
            go_simp
            exact hK.out (.int .u64 (x64 ^^^ y64 ^^^ z64 : Nat)) w (Chg.refl _ _) rfl
        · intro u' w3 hc hA
          have H11 : (Fact.val (.int .u64 (x64 ^^^ y64 ^^^ z64 : Nat))).holds (u' 11) w3 := hA.at 11 (by kernel_rfl)
          simp only [Fact.holds] at H11
          clear hA
          have hT3 := hTr.new hc
          have r3 : Row8 w3 (some ⟨w.heap.size, 0, none⟩) l2 l2 (up (mix xs ys zs l2)) := row8_chg HM2.out hc
          have cw3 := chg_then hcw2 hc
          clear hTr hxr hyr hzr HM2 hcw2 hc
          simp only [H11]
          clear H11
          go_wp2_with fail
          refine (sum32_any _ 1 1 [mix xs ys zs l2] _ (hT3.new (chg_one w3 _)) (pieces_one 22 ⟨_, _, _, rfl, r3, hD, by omega⟩) rfl (by decide)).mono ?_
          rintro e w4 ⟨rfl, rfl⟩
          rw [one, E32.out]
          have c4 := chg_one w3 (.cells #[.slice (some ⟨w.heap.size, 0, none⟩) l2 l2] 22)
          have hT4 := hT3.new c4
          have r4 := row8_chg r3 c4
          have cw4 := chg_then cw3 c4
          clear hT3 r3 c4 cw3
          generalize hw4 : w3.alloc (.cells #[.slice (some ⟨w.heap.size, 0, none⟩) l2 l2] 22) = w4 at *
          clear hw4
          go_wp2_with fail
          refine (sum64_any _ 1 1 [mix xs ys zs l2] _ (hT4.new (chg_one w4 _)) (pieces_one 22 ⟨_, _, _, rfl, r4, hD, by omega⟩) rfl (by decide)).mono ?_
          rintro e w5 ⟨rfl, rfl⟩
          rw [one, E64.out]
          have c5 := chg_one w4 (.cells #[.slice (some ⟨w.heap.size, 0, none⟩) l2 l2] 22)
          have hT5 := hT4.new c5
          have cw5 := chg_then cw4 c5
          clear hT4 r4 c5 cw4
          generalize hw5 : w4.alloc (.cells #[.slice (some ⟨w.heap.size, 0, none⟩) l2 l2] 22) = w5 at *
          clear hw5
          go_wp2_with fail
          refine (fixed_any w5 hT5).mono ?_
          rintro e w6 ⟨rfl, c6⟩
          go_wp2
          go_ret
          exact ⟨rfl, chg_then cw5 c6⟩

set_option maxHeartbeats 8000000 in
set_option maxRecDepth 100000 in
theorem walk4 (a b d : Option Addr) (l0 l1 l2 c0 c1 c2 : Nat) (xs ys zs : List Nat) (w : World) (hT : Tab w) (hx : Row8 w a l0 c0 (up xs)) (hy : Row8 w b l1 c1 (up ys)) (hz : Row8 w d l2 c2 (up zs)) (bx : Byt xs) (bY : Byt ys) (bz : Byt zs)
    (n0 : l0 ≤ 140737488351232) (n1 : l1 ≤ 140737488351232) (n2 : l2 ≤ 140737488351232) (m0 : l0 ≤ c0) (m1 : l1 ≤ c1) (m2 : l2 ≤ c2) (h1 : ¬ l1 < l0) (h2 : ¬ l2 < l0) :
    Calls Tryd.prog 3 #[.slice a l0 c0, .slice b l1 c1, .slice d l2 c2] w fun e w' => e = .returned (.bool true) ∧ Chg (fun _ => False) w w' := by
  obtain ⟨i0, hi, hz0, hz1, hz2⟩ := info_parts info5
  have lx : xs.length = l0 := by rw [← up_length]; exact hx.1
  have ly : ys.length = l1 := by rw [← up_length]; exact hy.1
  have lz : zs.length = l2 := by rw [← up_length]; exact hz.1
  have e32 := sum32 (x := xs) (y := ys) (z := zs) (N := l0) (by omega) (by omega) (by omega)
  have e64 := sum64 (x := xs) (y := ys) (z := zs) (N := l0) (by omega) (by omega) (by omega)
  have lm := mix_length (x := xs) (y := ys) (z := zs) (N := l0) (by omega) (by omega) (by omega)
  have hD := mix_byt (N := l0) bx bY bz
  have k1 := more32_lt (s := 0) (bx.take l0) (by decide)
  have k2 := more32_lt (s := 0) (bY.take l0) (by decide)
  have k3 := more32_lt (s := 0) (bz.take l0) (by decide)
  have k4 := more64_lt (s := 0) (bx.take l0) (by decide)
  have k5 := more64_lt (s := 0) (bY.take l0) (by decide)
  have k6 := more64_lt (s := 0) (bz.take l0) (by decide)
  have o1 := own_of_blk (heap_alloc_last w (.cells (cells8 (up (List.replicate l0 0))).toArray 5)) (Nat.le_refl _) (n := l0) (by simp [up]) (by omega)
  have hmk := make8 l0 (by omega) w
  have c1' := chg_one w (.cells (cells8 (up (List.replicate l0 0))).toArray 5)
  generalize hA : (cells8 (up (List.replicate l0 0))).toArray = A at *
  go_enter Tryd.func3, Tryd.ntmps3
  go_wp2
  clear hmk hA
  generalize w.alloc (.cells A 5) = w1 at *
  have HLX : Hid (xs.length = l0) := lx
  have HLY : Hid (ys.length = l1) := ly
  have HLZ : Hid (zs.length = l2) := lz
  have HLM : Hid ((mix xs ys zs l0).length = l0) := lm
  have E32 : Hid (Crc.more Crc.P32 32 0 (mix xs ys zs l0) = _) := e32
  have E64 : Hid (Crc.more Crc.P64 64 0 (mix xs ys zs l0) = _) := e64
  have ho0 : Hid (w1.ownsRow w.heap.size 5 1 (.slice (some ⟨w.heap.size, 0, none⟩) l0 l0) l0 (cells8 (up ((mix xs ys zs l0).take 0 ++ List.replicate (l0 - 0) 0)))) := by
    show World.ownsRow _ _ _ _ _ _ _
    simpa using o1
  clear lx ly lz lm e32 e64 o1
  go_loopw [9] (fun j wr => ∃ k : Nat, k ≤ l0 ∧ j = .int .i64 k ∧ Hid (wr.ownsRow w.heap.size 5 1 (.slice (some ⟨w.heap.size, 0, none⟩) l0 l0) l0 (cells8 (up ((mix xs ys zs l0).take k ++ List.replicate (l0 - k) 0)))) ∧ Chg (fun _ => False) w wr) (fun j _ => l0 - (intOf j).toNat)
  case atStart => exact ⟨0, by omega, rfl, ho0, c1'⟩
  case round =>
    clear ho0 c1'
    obtain ⟨k, hk, rfl, HO, hcw⟩ := hrel
    by_cases hlt : k < l0
    · obtain ⟨ax, rfl⟩ := cell_some hx k (by omega)
      obtain ⟨ay, rfl⟩ := cell_some hy k (by omega)
      obtain ⟨az, rfl⟩ := cell_some hz k (by omega)
      have jx : k < xs.length := by rw [HLX.out]; omega
      have jy : k < ys.length := by rw [HLY.out]; omega
      have jz : k < zs.length := by rw [HLZ.out]; omega
      have jm : k < (mix xs ys zs l0).length := by rw [HLM.out]; exact hlt
      have q1 := cell_at (row8_chg hx hcw) k jx
      have q2 := cell_at (row8_chg hy hcw) k jy
      have q3 := cell_at (row8_chg hz hcw) k jz
      have r1 := bx.at k jx
      have r2 := bY.at k jy
      have r3 := bz.at k jz
      have x1 := u8xor _ _ r1 r2
      have r12 : xs[k] ^^^ ys[k] < 256 := Nat.xor_lt_two_pow (n := 8) r1 r2
      have x2 := u8xor _ _ r12 r3
      have hAt := mix_at (x := xs) (y := ys) (z := zs) (N := l0) (by rw [HLX.out]; omega) (by rw [HLY.out]; omega) (by rw [HLZ.out]; omega) hlt jm
      obtain ⟨g, cap, hv, hBg, hcell, hfr, hset⟩ := own_set HO.out k hlt
      simp only [Value.slice.injEq, Option.some.injEq, Addr.mk.injEq, and_true, true_and] at hv
      obtain ⟨rfl, rfl⟩ := hv
      have hcl := hcell (0 : Int) (fill_get _ _ k hlt HLM.out)
      have HO2 : Hid ((wr.setCell ⟨w.heap.size, k, none⟩ (.int .u8 ((xs[k] ^^^ ys[k] ^^^ zs[k] : Nat) : Int))).ownsRow w.heap.size 5 1 (.slice (some ⟨w.heap.size, 0, none⟩) l0 l0) l0 (cells8 (up ((mix xs ys zs l0).take (k + 1) ++ List.replicate (l0 - (k + 1)) 0)))) := by
        show World.ownsRow _ _ _ _ _ _ _
        rw [← fill_set _ _ k jm HLM.out, ← up_set, hAt]
        exact hset _
      have HC2 : Hid (Chg (fun _ => False) w (wr.setCell ⟨w.heap.size, k, none⟩ (.int .u8 ((xs[k] ^^^ ys[k] ^^^ zs[k] : Nat) : Int)))) := hcw.setCell (.inr (Nat.le_refl _)) _
      clear hset hcell hAt HO
      generalize xs[k] ^^^ ys[k] ^^^ zs[k] = t2 at *
      generalize xs[k] ^^^ ys[k] = t1 at *
      generalize xs[k] = p1 at *
      generalize ys[k] = p2 at *
      generalize zs[k] = p3 at *
      clear hx hy hz hT bx bY bz hD k1 k2 k3 k4 k5 k6 E32 E64
      go_wp2_with fail
      go_region
      go_wp2
      go_roundw
      case rel => exact ⟨k + 1, by omega, by go_num, HO2, HC2.out.drew⟩
      case measure => simp [intOf]; omega
    · obtain rfl : l0 = k := by omega
      have HM : Hid (Row8 wr (some ⟨w.heap.size, 0, none⟩) l0 l0 (up (mix xs ys zs l0))) := by
        show Row8 _ _ _ _ _
        obtain ⟨ad, c', hv, hr, -⟩ := own_row8c HO.out
        simp only [Value.slice.injEq, true_and] at hv
        obtain ⟨rfl, rfl⟩ := hv
        rw [List.take_of_length_le (by rw [HLM.out]; exact Nat.le_refl _)] at hr
        simpa using hr
      have s0 : l0 ≤ c0 := by omega
      have s1 : l0 ≤ c1 := by omega
      have s2 : l0 ≤ c2 := by omega
      have hxr := row8_chg hx hcw
      have hyr := row8_chg hy hcw
      have hzr := row8_chg hz hcw
      have hTr := hT.new hcw
      clear HO hx hy hz hT
      generalize g1 : Crc.more Crc.P32 32 0 (xs.take l0) = x32 at *
      generalize g2 : Crc.more Crc.P32 32 0 (ys.take l0) = y32 at *
      generalize g3 : Crc.more Crc.P32 32 0 (zs.take l0) = z32 at *
      generalize g4 : Crc.more Crc.P64 64 0 (xs.take l0) = x64 at *
      generalize g5 : Crc.more Crc.P64 64 0 (ys.take l0) = y64 at *
      generalize g6 : Crc.more Crc.P64 64 0 (zs.take l0) = z64 at *
      have HX32 : Hid (Crc.more Crc.P32 32 0 (xs.take l0) = x32) := g1
      have HY32 : Hid (Crc.more Crc.P32 32 0 (ys.take l0) = y32) := g2
      have HZ32 : Hid (Crc.more Crc.P32 32 0 (zs.take l0) = z32) := g3
      have HX64 : Hid (Crc.more Crc.P64 64 0 (xs.take l0) = x64) := g4
      have HY64 : Hid (Crc.more Crc.P64 64 0 (ys.take l0) = y64) := g5
      have HZ64 : Hid (Crc.more Crc.P64 64 0 (zs.take l0) = z64) := g6
      clear g1 g2 g3 g4 g5 g6
      have x1 := xor32 x32 y32 k1 k2
      have x2 := xor32 (x32 ^^^ y32) z32 (Nat.xor_lt_two_pow (n := 32) k1 k2) k3
      have x3 := xor64 x64 y64 k4 k5
      have x4 := xor64 (x64 ^^^ y64) z64 (Nat.xor_lt_two_pow (n := 64) k4 k5) k6
      go_wp2_with fail
      refine wp_region_free (mk := fun u => #[_, _, _, _, _, _, _, _, _, _, u 10, _, _, _, _, _, _, _, _, _, _, _, _, _, _, _, _, _, _, _, _, _, _, _, _, _, _, _, _, _, _, _, _, _, _, _, _, _, _, _, u 50, u 51, u 52, u 53, u 54, u 55, u 56, u 57, u 58, u 59, u 60, u 61, u 62, u 63, u 64, u 65, u 66, _, _, _, _, _, _, _, _, _, _, _, _, _, _, _, _, _, _, _, _, _, _, _, _, _, _, _, _, _, _, _, _]) (F := fun slot v w => (look [(50, .val (.slice a l0 c0)), (51, .val (.int .i64 (l0 : Nat))), (52, .val (.slice a l0 c0)), (53, .pcs [xs.take l0]), (54, .val (.int .u32 (x32 : Nat))), (55, .val (.slice b l1 c1)), (56, .val (.int .i64 (l0 : Nat))), (57, .val (.slice b l0 c1)), (58, .pcs [ys.take l0]), (59, .val (.int .u32 (y32 : Nat))), (60, .val (.int .u32 (x32 ^^^ y32 : Nat))), (61, .val (.slice d l2 c2)), (62, .val (.int .i64 (l0 : Nat))), (63, .val (.slice d l0 c2)), (64, .pcs [zs.take l0]), (65, .val (.int .u32 (z32 : Nat))), (66, .val (.int .u32 (x32 ^^^ y32 ^^^ z32 : Nat))), (10, .val (.int .u32 (x32 ^^^ y32 ^^^ z32 : Nat)))] slot).holds v w) (fun _ => undef) rfl (by kernel_rfl) (by kernel_rfl) ?_ (fun _ v w w' hc h => Fact.stays _ v w w' hc h) ?_ ?_
      · repeat (refine ⟨⟨_, rfl, fun _ _ => rfl⟩, ?_⟩)
        exact trivial
      · refine ⟨?_, ?_, ?_, ?_, ?_, ?_, ?_, ?_, ?_, ?_, ?_, ?_, ?_, ?_, ?_, ?_, ?_, ?_, trivial⟩
        · intro u w hc hd K hK -- 50
          clear hd
          go_simp
          exact hK.out (.slice a l0 c0) w (Chg.refl _ _) rfl
        · intro u w hc hd K hK -- 51
          clear hd
          go_simp
          exact hK.out (.int .i64 (l0 : Nat)) w (Chg.refl _ _) rfl
        · intro u w hc hd K hK -- 52
          have h50 : (Fact.val (.slice a l0 c0)).holds (u 50) w := hd.get 0 (by kernel_rfl)
          simp only [Fact.holds] at h50
          have h51 : (Fact.val (.int .i64 (l0 : Nat))).holds (u 51) w := hd.get 1 (by kernel_rfl)
          simp only [Fact.holds] at h51
          clear hd
          simp only [h50, h51] at hK
          go_simp
          exact hK.out (.slice a l0 c0) w (Chg.refl _ _) rfl
        · intro u w hc hd K hK -- 53
          have h52 : (Fact.val (.slice a l0 c0)).holds (u 52) w := hd.get 2 (by kernel_rfl)
          simp only [Fact.holds] at h52
          clear hd
          simp only [h52] at hK
          go_simp
          exact hK.out _ _ (chg_one w _) ⟨_, rfl, pieces_one 22 ⟨_, _, _, rfl, (up_take xs l0).symm ▸ row8_take (row8_chg hxr hc) l0 (by omega), bx.take l0, by omega⟩⟩
        · intro u w hc hd K hK -- 54
          have h53 : (Fact.pcs [xs.take l0]).holds (u 53) w := hd.get 3 (by kernel_rfl)
          obtain ⟨q53, h53, p53⟩ := h53
          simp only [List.length_cons, List.length_nil, Nat.reduceAdd] at h53
          clear hd
          simp only [h53] at hK
          go_simp
          go_at_call 9
          refine (sum32_any q53 1 1 [xs.take l0] w (hTr.new hc) p53 rfl (by decide)).mono ?_
          rintro e w1 ⟨rfl, rfl⟩
          refine hK.out _ _ (Chg.refl _ _) ?_
          show _ = _
          rw [one, HX32.out]
        · intro u w hc hd K hK -- 55
          clear hd
          go_simp
          exact hK.out (.slice b l1 c1) w (Chg.refl _ _) rfl
        · intro u w hc hd K hK -- 56
          clear hd
          go_simp
          exact hK.out (.int .i64 (l0 : Nat)) w (Chg.refl _ _) rfl
        · intro u w hc hd K hK -- 57
          have h55 : (Fact.val (.slice b l1 c1)).holds (u 55) w := hd.get 5 (by kernel_rfl)
          simp only [Fact.holds] at h55
          have h56 : (Fact.val (.int .i64 (l0 : Nat))).holds (u 56) w := hd.get 6 (by kernel_rfl)
          simp only [Fact.holds] at h56
          clear hd
          simp only [h55, h56] at hK
          go_simp
          exact hK.out (.slice b l0 c1) w (Chg.refl _ _) rfl
        · intro u w hc hd K hK -- 58
          have h57 : (Fact.val (.slice b l0 c1)).holds (u 57) w := hd.get 7 (by kernel_rfl)
          simp only [Fact.holds] at h57
          clear hd
          simp only [h57] at hK
          go_simp
          exact hK.out _ _ (chg_one w _) ⟨_, rfl, pieces_one 22 ⟨_, _, _, rfl, (up_take ys l0).symm ▸ row8_take (row8_chg hyr hc) l0 (by omega), bY.take l0, by omega⟩⟩
        · intro u w hc hd K hK -- 59
          have h58 : (Fact.pcs [ys.take l0]).holds (u 58) w := hd.get 8 (by kernel_rfl)
          obtain ⟨q58, h58, p58⟩ := h58
          simp only [List.length_cons, List.length_nil, Nat.reduceAdd] at h58
          clear hd
          simp only [h58] at hK
          go_simp
          go_at_call 9
          refine (sum32_any q58 1 1 [ys.take l0] w (hTr.new hc) p58 rfl (by decide)).mono ?_
          rintro e w1 ⟨rfl, rfl⟩
          refine hK.out _ _ (Chg.refl _ _) ?_
          show _ = _
          rw [one, HY32.out]
        · intro u w hc hd K hK -- 60
          have h54 : (Fact.val (.int .u32 (x32 : Nat))).holds (u 54) w := hd.get 4 (by kernel_rfl)
          simp only [Fact.holds] at h54
          have h59 : (Fact.val (.int .u32 (y32 : Nat))).holds (u 59) w := hd.get 9 (by kernel_rfl)
          simp only [Fact.holds] at h59
          clear hd
          simp only [h54, h59] at hK
          go_simp
          exact hK.out (.int .u32 (x32 ^^^ y32 : Nat)) w (Chg.refl _ _) rfl
        · intro u w hc hd K hK -- 61
          clear hd
          go_simp
          exact hK.out (.slice d l2 c2) w (Chg.refl _ _) rfl
        · intro u w hc hd K hK -- 62
          clear hd
          go_simp
          exact hK.out (.int .i64 (l0 : Nat)) w (Chg.refl _ _) rfl
        · intro u w hc hd K hK -- 63
          have h61 : (Fact.val (.slice d l2 c2)).holds (u 61) w := hd.get 11 (by kernel_rfl)
          simp only [Fact.holds] at h61
          have h62 : (Fact.val (.int .i64 (l0 : Nat))).holds (u 62) w := hd.get 12 (by kernel_rfl)
          simp only [Fact.holds] at h62
          clear hd
          simp only [h61, h62] at hK
          go_simp
          exact hK.out (.slice d l0 c2) w (Chg.refl _ _) rfl
        · intro u w hc hd K hK -- 64
          have h63 : (Fact.val (.slice d l0 c2)).holds (u 63) w := hd.get 13 (by kernel_rfl)
          simp only [Fact.holds] at h63
          clear hd
          simp only [h63] at hK
          go_simp
          exact hK.out _ _ (chg_one w _) ⟨_, rfl, pieces_one 22 ⟨_, _, _, rfl, (up_take zs l0).symm ▸ row8_take (row8_chg hzr hc) l0 (by omega), bz.take l0, by omega⟩⟩
        · intro u w hc hd K hK -- 65
          have h64 : (Fact.pcs [zs.take l0]).holds (u 64) w := hd.get 14 (by kernel_rfl)
          obtain ⟨q64, h64, p64⟩ := h64
          simp only [List.length_cons, List.length_nil, Nat.reduceAdd] at h64
          clear hd
          simp only [h64] at hK
          go_simp
          go_at_call 9
          refine (sum32_any q64 1 1 [zs.take l0] w (hTr.new hc) p64 rfl (by decide)).mono ?_
          rintro e w1 ⟨rfl, rfl⟩
          refine hK.out _ _ (Chg.refl _ _) ?_
          show _ = _
          rw [one, HZ32.out]
        · intro u w hc hd K hK -- 66
          have h60 : (Fact.val (.int .u32 (x32 ^^^ y32 : Nat))).holds (u 60) w := hd.get 10 (by kernel_rfl)
          simp only [Fact.holds] at h60
          have h65 : (Fact.val (.int .u32 (z32 : Nat))).holds (u 65) w := hd.get 15 (by kernel_rfl)
          simp only [Fact.holds] at h65
          clear hd
          simp only [h60, h65] at hK
          go_simp
          exact hK.out (.int .u32 (x32 ^^^ y32 ^^^ z32 : Nat)) w (Chg.refl _ _) rfl
        · intro u w hc hd K hK -- 10
          have h66 : (Fact.val (.int .u32 (x32 ^^^ y32 ^^^ z32 : Nat))).holds (u 66) w := hd.get 16 (by kernel_rfl)
          simp only [Fact.holds] at h66
          clear hd
          simp only [h66] at hK
          go_simp
          exact hK.out (.int .u32 (x32 ^^^ y32 ^^^ z32 : Nat)) w (Chg.refl _ _) rfl
      · intro u w2 hc hA
        have H10 : (Fact.val (.int .u32 (x32 ^^^ y32 ^^^ z32 : Nat))).holds (u 10) w2 := hA.at 10 (by kernel_rfl)
        simp only [Fact.holds] at H10
        clear hA
        have hTr2 := hTr.new hc
        have hxr2 := row8_chg hxr hc
        have hyr2 := row8_chg hyr hc
        have hzr2 := row8_chg hzr hc
        have HM2 : Hid (Row8 w2 (some ⟨w.heap.size, 0, none⟩) l0 l0 (up (mix xs ys zs l0))) := row8_chg HM.out hc
        have hcw2 := chg_then hcw hc
        clear hTr hxr hyr hzr HM hcw hc
        have hxr := hxr2
        have hyr := hyr2
        have hzr := hzr2
        have hTr := hTr2
        clear hxr2 hyr2 hzr2 hTr2
        simp only [H10]
        clear H10
        go_wp2_with fail
        refine wp_region_free (mk := fun u => #[_, _, _, _, _, _, _, _, _, _, _, u 11, _, _, _, _, _, _, _, _, _, _, _, _, _, _, _, _, _, _, _, _, _, _, _, _, _, _, _, _, _, _, _, _, _, _, _, _, _, _, _, _, _, _, _, _, _, _, _, _, _, _, _, _, _, _, _, u 67, u 68, u 69, u 70, u 71, u 72, u 73, u 74, u 75, u 76, u 77, u 78, u 79, u 80, u 81, u 82, u 83, _, _, _, _, _, _, _, _, _, _, _, _, _, _, _]) (F := fun slot v w => (look [(67, .val (.slice a l0 c0)), (68, .val (.int .i64 (l0 : Nat))), (69, .val (.slice a l0 c0)), (70, .pcs [xs.take l0]), (71, .val (.int .u64 (x64 : Nat))), (72, .val (.slice b l1 c1)), (73, .val (.int .i64 (l0 : Nat))), (74, .val (.slice b l0 c1)), (75, .pcs [ys.take l0]), (76, .val (.int .u64 (y64 : Nat))), (77, .val (.int .u64 (x64 ^^^ y64 : Nat))), (78, .val (.slice d l2 c2)), (79, .val (.int .i64 (l0 : Nat))), (80, .val (.slice d l0 c2)), (81, .pcs [zs.take l0]), (82, .val (.int .u64 (z64 : Nat))), (83, .val (.int .u64 (x64 ^^^ y64 ^^^ z64 : Nat))), (11, .val (.int .u64 (x64 ^^^ y64 ^^^ z64 : Nat)))] slot).holds v w) (fun _ => undef) rfl (by kernel_rfl) (by kernel_rfl) ?_ (fun _ v w w' hc h => Fact.stays _ v w w' hc h) ?_ ?_
        · repeat (refine ⟨⟨_, rfl, fun _ _ => rfl⟩, ?_⟩)
          exact trivial
        · refine ⟨?_, ?_, ?_, ?_, ?_, ?_, ?_, ?_, ?_, ?_, ?_, ?_, ?_, ?_, ?_, ?_, ?_, ?_, trivial⟩
          · intro u w hc hd K hK -- 67
            clear hd
            go_simp
            exact hK.out (.slice a l0 c0) w (Chg.refl _ _) rfl
          · intro u w hc hd K hK -- 68
            clear hd
            go_simp
            exact hK.out (.int .i64 (l0 : Nat)) w (Chg.refl _ _) rfl
          · intro u w hc hd K hK -- 69
            have h67 : (Fact.val (.slice a l0 c0)).holds (u 67) w := hd.get 0 (by kernel_rfl)
            simp only [Fact.holds] at h67
            have h68 : (Fact.val (.int .i64 (l0 : Nat))).holds (u 68) w := hd.get 1 (by kernel_rfl)
            simp only [Fact.holds] at h68
            clear hd
            simp only [h67, h68] at hK
            go_simp
            exact hK.out (.slice a l0 c0) w (Chg.refl _ _) rfl
          · intro u w hc hd K hK -- 70
            have h69 : (Fact.val (.slice a l0 c0)).holds (u 69) w := hd.get 2 (by kernel_rfl)
            simp only [Fact.holds] at h69
            clear hd
            simp only [h69] at hK
            go_simp
            exact hK.out _ _ (chg_one w _) ⟨_, rfl, pieces_one 22 ⟨_, _, _, rfl, (up_take xs l0).symm ▸ row8_take (row8_chg hxr hc) l0 (by omega), bx.take l0, by omega⟩⟩
          · intro u w hc hd K hK -- 71
            have h70 : (Fact.pcs [xs.take l0]).holds (u 70) w := hd.get 3 (by kernel_rfl)
            obtain ⟨q70, h70, p70⟩ := h70
            simp only [List.length_cons, List.length_nil, Nat.reduceAdd] at h70
            clear hd
            simp only [h70] at hK
            go_simp
            go_at_call 10
            refine (sum64_any q70 1 1 [xs.take l0] w (hTr.new hc) p70 rfl (by decide)).mono ?_
            rintro e w1 ⟨rfl, rfl⟩
            refine hK.out _ _ (Chg.refl _ _) ?_
            show _ = _
            rw [one, HX64.out]
          · intro u w hc hd K hK -- 72
            clear hd
            go_simp
            exact hK.out (.slice b l1 c1) w (Chg.refl _ _) rfl
          · intro u w hc hd K hK -- 73
            clear hd
            go_simp
            exact hK.out (.int .i64 (l0 : Nat)) w (Chg.refl _ _) rfl
          · intro u w hc hd K hK -- 74
            have h72 : (Fact.val (.slice b l1 c1)).holds (u 72) w := hd.get 5 (by kernel_rfl)
            simp only [Fact.holds] at h72
            have h73 : (Fact.val (.int .i64 (l0 : Nat))).holds (u 73) w := hd.get 6 (by kernel_rfl)
            simp only [Fact.holds] at h73
            clear hd
            simp only [h72, h73] at hK
            go_simp
            exact hK.out (.slice b l0 c1) w (Chg.refl _ _) rfl
          · intro u w hc hd K hK -- 75
            have h74 : (Fact.val (.slice b l0 c1)).holds (u 74) w := hd.get 7 (by kernel_rfl)
            simp only [Fact.holds] at h74
            clear hd
            simp only [h74] at hK
            go_simp
            exact hK.out _ _ (chg_one w _) ⟨_, rfl, pieces_one 22 ⟨_, _, _, rfl, (up_take ys l0).symm ▸ row8_take (row8_chg hyr hc) l0 (by omega), bY.take l0, by omega⟩⟩
          · intro u w hc hd K hK -- 76
            have h75 : (Fact.pcs [ys.take l0]).holds (u 75) w := hd.get 8 (by kernel_rfl)
            obtain ⟨q75, h75, p75⟩ := h75
            simp only [List.length_cons, List.length_nil, Nat.reduceAdd] at h75
            clear hd
            simp only [h75] at hK
            go_simp
            go_at_call 10
            refine (sum64_any q75 1 1 [ys.take l0] w (hTr.new hc) p75 rfl (by decide)).mono ?_
            rintro e w1 ⟨rfl, rfl⟩
            refine hK.out _ _ (Chg.refl _ _) ?_
            show _ = _
            rw [one, HY64.out]
          · intro u w hc hd K hK -- 77
            have h71 : (Fact.val (.int .u64 (x64 : Nat))).holds (u 71) w := hd.get 4 (by kernel_rfl)
            simp only [Fact.holds] at h71
            have h76 : (Fact.val (.int .u64 (y64 : Nat))).holds (u 76) w := hd.get 9 (by kernel_rfl)
            simp only [Fact.holds] at h76
            clear hd
            simp only [h71, h76] at hK
            go_simp
            exact hK.out (.int .u64 (x64 ^^^ y64 : Nat)) w (Chg.refl _ _) rfl
          · intro u w hc hd K hK -- 78
            clear hd
            go_simp
            exact hK.out (.slice d l2 c2) w (Chg.refl _ _) rfl
          · intro u w hc hd K hK -- 79
            clear hd
            go_simp
            exact hK.out (.int .i64 (l0 : Nat)) w (Chg.refl _ _) rfl
          · intro u w hc hd K hK -- 80
            have h78 : (Fact.val (.slice d l2 c2)).holds (u 78) w := hd.get 11 (by kernel_rfl)
            simp only [Fact.holds] at h78
            have h79 : (Fact.val (.int .i64 (l0 : Nat))).holds (u 79) w := hd.get 12 (by kernel_rfl)
            simp only [Fact.holds] at h79
            clear hd
            simp only [h78, h79] at hK
            go_simp
            exact hK.out (.slice d l0 c2) w (Chg.refl _ _) rfl
          · intro u w hc hd K hK -- 81
            have h80 : (Fact.val (.slice d l0 c2)).holds (u 80) w := hd.get 13 (by kernel_rfl)
            simp only [Fact.holds] at h80
            clear hd
            simp only [h80] at hK
            go_simp
            exact hK.out _ _ (chg_one w _) ⟨_, rfl, pieces_one 22 ⟨_, _, _, rfl, (up_take zs l0).symm ▸ row8_take (row8_chg hzr hc) l0 (by omega), bz.take l0, by omega⟩⟩
          · intro u w hc hd K hK -- 82
            have h81 : (Fact.pcs [zs.take l0]).holds (u 81) w := hd.get 14 (by kernel_rfl)
            obtain ⟨q81, h81, p81⟩ := h81
            simp only [List.length_cons, List.length_nil, Nat.reduceAdd] at h81
            clear hd
            simp only [h81] at hK
            go_simp
            go_at_call 10
            refine (sum64_any q81 1 1 [zs.take l0] w (hTr.new hc) p81 rfl (by decide)).mono ?_
            rintro e w1 ⟨rfl, rfl⟩
            refine hK.out _ _ (Chg.refl _ _) ?_
            show _ = _
            rw [one, HZ64.out]
          · intro u w hc hd K hK -- 83
            have h77 : (Fact.val (.int .u64 (x64 ^^^ y64 : Nat))).holds (u 77) w := hd.get 10 (by kernel_rfl)
            simp only [Fact.holds] at h77
            have h82 : (Fact.val (.int .u64 (z64 : Nat))).holds (u 82) w := hd.get 15 (by kernel_rfl)
            simp only [Fact.holds] at h82
            clear hd
            simp only [h77, h82] at hK
            go_simp
            exact hK.out (.int .u64 (x64 ^^^ y64 ^^^ z64 : Nat)) w (Chg.refl _ _) rfl
          · intro u w hc hd K hK -- 11
            have h83 : (Fact.val (.int .u64 (x64 ^^^ y64 ^^^ z64 : Nat))).holds (u 83) w := hd.get 16 (by kernel_rfl)
            simp only [Fact.holds] at h83
            clear hd
            simp only [h83] at hK
            go_simp
            exact hK.out (.int .u64 (x64 ^^^ y64 ^^^ z64 : Nat)) w (Chg.refl _ _) rfl
        · intro u' w3 hc hA
          have H11 : (Fact.val (.int .u64 (x64 ^^^ y64 ^^^ z64 : Nat))).holds (u' 11) w3 := hA.at 11 (by kernel_rfl)
          simp only [Fact.holds] at H11
          clear hA
          have hT3 := hTr.new hc
          have r3 : Row8 w3 (some ⟨w.heap.size, 0, none⟩) l0 l0 (up (mix xs ys zs l0)) := row8_chg HM2.out hc
          have cw3 := chg_then hcw2 hc
          clear hTr hxr hyr hzr HM2 hcw2 hc
          simp only [H11]
          clear H11
          go_wp2_with fail
          refine (sum32_any _ 1 1 [mix xs ys zs l0] _ (hT3.new (chg_one w3 _)) (pieces_one 22 ⟨_, _, _, rfl, r3, hD, by omega⟩) rfl (by decide)).mono ?_
          rintro e w4 ⟨rfl, rfl⟩
          rw [one, E32.out]
          have c4 := chg_one w3 (.cells #[.slice (some ⟨w.heap.size, 0, none⟩) l0 l0] 22)
          have hT4 := hT3.new c4
          have r4 := row8_chg r3 c4
          have cw4 := chg_then cw3 c4
          clear hT3 r3 c4 cw3
          generalize hw4 : w3.alloc (.cells #[.slice (some ⟨w.heap.size, 0, none⟩) l0 l0] 22) = w4 at *
          clear hw4
          go_wp2_with fail
          refine (sum64_any _ 1 1 [mix xs ys zs l0] _ (hT4.new (chg_one w4 _)) (pieces_one 22 ⟨_, _, _, rfl, r4, hD, by omega⟩) rfl (by decide)).mono ?_
          rintro e w5 ⟨rfl, rfl⟩
          rw [one, E64.out]
          have c5 := chg_one w4 (.cells #[.slice (some ⟨w.heap.size, 0, none⟩) l0 l0] 22)
          have hT5 := hT4.new c5
          have cw5 := chg_then cw4 c5
          clear hT4 r4 c5 cw4
          generalize hw5 : w4.alloc (.cells #[.slice (some ⟨w.heap.size, 0, none⟩) l0 l0] 22) = w5 at *
          clear hw5
          go_wp2_with fail
          refine (fixed_any w5 hT5).mono ?_
          rintro e w6 ⟨rfl, c6⟩
          go_wp2
          go_ret
          exact ⟨rfl, chg_then cw5 c6⟩
theorem walk (a b d : Option Addr) (l0 l1 l2 c0 c1 c2 : Nat) (xs ys zs : List Nat) (w : World) (hT : Tab w) (hx : Row8 w a l0 c0 (up xs)) (hy : Row8 w b l1 c1 (up ys)) (hz : Row8 w d l2 c2 (up zs)) (bx : Byt xs) (bY : Byt ys) (bz : Byt zs)
    (n0 : l0 ≤ 140737488351232) (n1 : l1 ≤ 140737488351232) (n2 : l2 ≤ 140737488351232) (m0 : l0 ≤ c0) (m1 : l1 ≤ c1) (m2 : l2 ≤ c2) :
    Calls Tryd.prog 3 #[.slice a l0 c0, .slice b l1 c1, .slice d l2 c2] w fun e w' => e = .returned (.bool true) ∧ Chg (fun _ => False) w w' := by
  by_cases h1 : l1 < l0
  · by_cases h2 : l2 < l1
    · exact walk1 a b d l0 l1 l2 c0 c1 c2 xs ys zs w hT hx hy hz bx bY bz n0 n1 n2 m0 m1 m2 h1 h2
    · exact walk2 a b d l0 l1 l2 c0 c1 c2 xs ys zs w hT hx hy hz bx bY bz n0 n1 n2 m0 m1 m2 h1 h2
  · by_cases h2 : l2 < l0
    · exact walk3 a b d l0 l1 l2 c0 c1 c2 xs ys zs w hT hx hy hz bx bY bz n0 n1 n2 m0 m1 m2 h1 h2
    · exact walk4 a b d l0 l1 l2 c0 c1 c2 xs ys zs w hT hx hy hz bx bY bz n0 n1 n2 m0 m1 m2 h1 h2

set_option maxRecDepth 100000 in
theorem lifted (os : Os) (started : os.Started) (H : Type) (enc : TypeId × Value → H) :
    ReturnsInHanded {} Tryd.checked os 3 .any (fun w args => (Rows.crcLinearSpec.pre enc Tryd.prog Tryd.f3 [] false w args ∧ laidMetH Tryd.prog [("pith/crc.half32", Rows.laid_pith_crc_half32), ("pith/crc.half64", Rows.laid_pith_crc_half64)] w) ∧ sizedMet enc Tryd.prog Tryd.f3 (OpenSpec.ofChange Rows.crcLinearSpec) false w args)
      (Rows.crcLinearSpec.post enc Tryd.prog Tryd.f3 false true false false) := by
  refine returnsInHanded_of_change_and (C := Tryd.checked) (X := fun w _ => laidMetH Tryd.prog [("pith/crc.half32", Rows.laid_pith_crc_half32), ("pith/crc.half64", Rows.laid_pith_crc_half64)] w) (fun _ _ _ hh h => h.of_heap hh) own started (by kernel_rfl) Tryd.func3
    (ChangeSpec.witness_shaped (enc := enc) (C := Tryd.checked) (os := os) (X := fun w _ => laidMetH Tryd.prog [("pith/crc.half32", Rows.laid_pith_crc_half32), ("pith/crc.half64", Rows.laid_pith_crc_half64)] w) false (World.doorLaid Tryd.prog 400 os) #[.slice none 0 0, .slice none 0 0, .slice none 0 0] 8 rfl (World.shaped_of_RefB (by kernel_rfl) (by kernel_rfl)) (by kernel_rfl) (by kernel_rfl) (by kernel_rfl) (door_met os _)) ?_
  intro W base args ds gs before hval0 hW _ hsz0 hL _
  have hsz : (DataW.weightsEach Tryd.prog (Tryd.f3.params.toList ++ Rows.crcLinearSpec.plain.varTypes Tryd.prog) (ds ++ gs)).all (· ≤ reachBytes) = true := hsz0
  clear hsz0
  have hT := tab_of_laid hL
  have hval : ∀ (j : Nat) t v, Tryd.f3.params[j]? = some t → args[j]? = some v → Value.okWide Tryd.prog W .any base t v := hval0
  have hW' := hW
  obtain ⟨p, q, hA0, hV, rfl, hfz, hnd⟩ := hW
  have hA : DataW.TrodAll enc Tryd.prog W 0 (fun _ => true) true Tryd.f3.params.toList args.toList ds p := hA0
  rw [Tryd.params3] at hA hval hsz
  obtain ⟨v0, vs0, d0, ds0, p0, q0, hargs, rfl, rfl, h0, r0⟩ := trodAll_cons hA
  obtain ⟨v1, vs1, d1, ds1, p1, q1, rfl, rfl, rfl, h1, r1⟩ := trodAll_cons r0
  obtain ⟨v2, vs2, d2, ds2, p2, q2, rfl, rfl, rfl, h2, r2⟩ := trodAll_cons r1
  obtain ⟨rfl, rfl, rfl⟩ := trodAll_nil r2
  obtain rfl : args = #[v0, v1, v2] := by cases args; simp_all
  obtain ⟨rfl, rfl⟩ := trodVars_none hV
  obtain ⟨a0, len0, cap0, rfl⟩ := okWide_slice Tryd.underlying22 (hval 0 22 v0 rfl rfl)
  have k0 := h0
  have lt0 : ∀ x ∈ p0, x.block < W.heap.size := by obtain ⟨m, hm⟩ := k0; exact DataW.trod_lt m _ _ _ hm
  obtain ⟨xs0, hx0, hy0, hl0, hcap0⟩ := open8 h0 (fun elems spare e => by subst e; exact sized_slice hsz (j := 0) (t := 22) (e := 5) rfl rfl Tryd.underlying22)
  obtain ⟨a1, len1, cap1, rfl⟩ := okWide_slice Tryd.underlying22 (hval 1 22 v1 rfl rfl)
  have k1 := h1
  have lt1 : ∀ x ∈ p1, x.block < W.heap.size := by obtain ⟨m, hm⟩ := k1; exact DataW.trod_lt m _ _ _ hm
  obtain ⟨xs1, hx1, hy1, hl1, hcap1⟩ := open8 h1 (fun elems spare e => by subst e; exact sized_slice hsz (j := 1) (t := 22) (e := 5) rfl rfl Tryd.underlying22)
  obtain ⟨a2, len2, cap2, rfl⟩ := okWide_slice Tryd.underlying22 (hval 2 22 v2 rfl rfl)
  have k2 := h2
  have lt2 : ∀ x ∈ p2, x.block < W.heap.size := by obtain ⟨m, hm⟩ := k2; exact DataW.trod_lt m _ _ _ hm
  obtain ⟨xs2, hx2, hy2, hl2, hcap2⟩ := open8 h2 (fun elems spare e => by subst e; exact sized_slice hsz (j := 2) (t := 22) (e := 5) rfl rfl Tryd.underlying22)
  clear hA0 hval0
  refine (walk a0 a1 a2 len0 len1 len2 cap0 cap1 cap2 xs0 xs1 xs2 W hT hx0 hx1 hx2 hy0 hy1 hy2 (by omega) (by omega) (by omega) hl0 hl1 hl2).mono fun e W' ⟨he, hCC⟩ => ?_
  subst he
  have bel := below_of hCC
  exact ⟨_, rfl, _, _, _, [], _, [], hW', trodAll_mk1 (shut_bool Tryd.underlying4 _), (trodAll_cons_mk (Below.trod laidOut (by kernel_rfl) (of_decide_eq_true (by kernel_rfl)) k0 bel lt0) (trodAll_cons_mk (Below.trod laidOut (by kernel_rfl) (of_decide_eq_true (by kernel_rfl)) k1 bel lt1) (trodAll_cons_mk (Below.trod laidOut (by kernel_rfl) (of_decide_eq_true (by kernel_rfl)) k2 bel lt2) trodAll_mk0))), rfl, bel.frame _, fun h => by cases h⟩

theorem over : Rows.CrcLinearSaid :=
  OpenClaim.holds_of_wide 3 Tryd.f3 rfl rfl rfl rfl rfl rfl rfl ⟨rfl, rfl, rfl, rfl, rfl⟩ rfl rfl rfl rfl rfl (by kernel_rfl) Tryd.func3 (by kernel_rfl)
    (of_decide_eq_true (by kernel_rfl)) (by unfold Func.isWrapper; first | (rw [if_pos (by decide +kernel)]; kernel_rfl) | (rw [if_neg (by decide +kernel)]; exact ⟨rfl, rfl⟩))
    (fun os started H enc _ => lifted os started H enc)

theorem card : Rows.CrcLinearCardSaid :=
  Claim7.holds_tied_plain_at .later [] [.data, .data] true (true, "ca69a7d00fe7128775994628562602c8ac7e0bcdb440e5576c22203d2800d4d2") false
    over (fun _ h => by cases h) (by kernel_rfl) (fun _ h => by cases h) crcLinear_row_tie rfl ⟨rfl, rfl⟩ (by kernel_rfl) rfl
    (fun f fn hf hfn => by
      obtain rfl : f = 3 := Option.some.inj ((show Tryd.prog.funcNamed "pith/pithlaw03.CrcLinear" = some 3 by kernel_rfl).symm.trans hf) |>.symm
      obtain rfl : fn = Tryd.f3 := (Option.some.inj (Tryd.func3.symm.trans hfn)).symm
      exact ⟨by kernel_rfl, fun j t ht => by
        rw [Tryd.params3] at ht
        have hm : t ∈ [22, 22, 22] := by simpa using Array.mem_of_getElem? ht
        have hall : ([22, 22, 22].all fun u => !Tryd.prog.wantsStandIn u) = true := by kernel_rfl
        exact (show Tryd.prog.wantsStandIn t = false by simpa using List.all_eq_true.1 hall t hm)⟩)
    (by kernel_rfl)
end Go.Proofs.YtmgjbkgooekihaaDoor.crcLinear
namespace Go.Proofs.YtmgjbkgooekihaaDoor
theorem crcLinear_holds : Rows.CrcLinearCardSaid := crcLinear.card
#print axioms crcLinear_holds
end Go.Proofs.YtmgjbkgooekihaaDoor
