/- Strings as bytes, bytes lent with a mark behind them, the sum of the document; of no statement by themselves. -/
import Derived.Test.YtnedllhlmddmoabDoorRefH
import Derived.Test.YtnedllhlmddmoabDoorStr
import Derived.Test.YtnedllhlmddmoabDoorHash
import Derived.Laws.IdiomStrings
import Derived.Laws.Concat
namespace Go.Proofs.YtnedllhlmddmoabDoor
open Go.RowKit
set_option linter.unusedVariables false

/-- A text of these bytes. -/
def str (ns : List Nat) : ByteArray := strOfNums (up ns)
theorem str_size (ns : List Nat) : (str ns).size = ns.length := by rw [str, strOfNums_size, up_length]
theorem str_append (a b : List Nat) : str a ++ str b = str (a ++ b) := by
  apply ByteArray.ext
  simp [str, strOfNums, up]
def numsOf (s : ByteArray) : List Nat := s.data.toList.map UInt8.toNat
theorem numsOf_byt (s : ByteArray) : Byt (numsOf s) := fun x hx => by
  obtain ⟨y, _, rfl⟩ := List.mem_map.1 hx
  exact UInt8.toNat_lt y
theorem numsOf_str (s : ByteArray) : str (numsOf s) = s := by
  apply ByteArray.ext
  apply Array.toList_inj.1
  show ((up (numsOf s)).map fun n => UInt8.ofNat n.toNat) = _
  simp [up, numsOf, Function.comp_def]
theorem numsOf_len (s : ByteArray) : (numsOf s).length = s.data.toList.length := by simp [numsOf]

theorem conv_str (w : World) (ns : List Nat) (hb : Byt ns) : ∃ cap w', (convert 9 24 (.string (str ns))).run Tryd.prog w = .ok (.slice (some ⟨w.heap.size, 0, none⟩) ns.length cap) w' ∧ Row8 w' (some ⟨w.heap.size, 0, none⟩) ns.length cap (up ns) ∧ ns.length ≤ cap ∧ Chg (fun _ => False) w w' := by
  have h := run_bytes_of_string (P := Tryd.prog) w 9 24 5 (str ns) Tryd.underlying9 Tryd.underlying24 Tryd.underlying5
  rw [str_size] at h
  refine ⟨_, _, h, ⟨up_length _, .inr ⟨_, rfl, fun j u hu => ?_⟩⟩, grownCap_ge .., (Chg.refl _ w).drew.alloc _⟩
  rw [addk, Nat.zero_add]
  have e : w.heap.size = w.drew.heap.size := rfl
  rw [e, cell_of_row _ _ j _ _ _ (heap_alloc_last w.drew _)]
  have hj : j < ns.length := by simpa [up] using (List.getElem?_eq_some_iff.1 hu).1
  have hjb := hb.at j hj
  simp only [up, List.map_map, List.getElem?_map, List.getElem?_eq_getElem hj, Option.map_some, Function.comp, Option.some.injEq] at hu
  subst hu
  unfold bytesRow
  rw [Array.getElem?_append_left (by simp [str, strOfNums, up, hj])]
  simp [str, strOfNums, up, hj, Nat.mod_eq_of_lt hjb]

set_option maxHeartbeats 2000000 in
set_option maxRecDepth 100000 in
theorem refsum_any (ad : Option Addr) (n c : Nat) (bs : List Nat) (w : World) (hx : Row8 w ad n c (up bs)) (hb : Byt bs) (hn : n ≤ 140737488351232) :
    Calls Tryd.prog 7 #[.slice ad n c] w fun e w' => e = .returned (.agg (byts (Sha.sum Sha.I 0 bs)).toArray) ∧ Chg (fun _ => False) w w' := by
  have hl : bs.length = n := by rw [← up_length]; exact hx.1
  have HZ32 : Hid ((byts (List.replicate 32 0)).toArray = #[.int .u8 0, .int .u8 0, .int .u8 0, .int .u8 0, .int .u8 0, .int .u8 0, .int .u8 0, .int .u8 0, .int .u8 0, .int .u8 0, .int .u8 0, .int .u8 0, .int .u8 0, .int .u8 0, .int .u8 0, .int .u8 0, .int .u8 0, .int .u8 0, .int .u8 0, .int .u8 0, .int .u8 0, .int .u8 0, .int .u8 0, .int .u8 0, .int .u8 0, .int .u8 0, .int .u8 0, .int .u8 0, .int .u8 0, .int .u8 0, .int .u8 0, .int .u8 0]) := rfl
  have c0 := chg_one w (.cells (byts (List.replicate 32 0)).toArray 27)
  have hr1 : (w.alloc (.cells (byts (List.replicate 32 0)).toArray 27)).heap[w.heap.size]? = some (.cells (byts (List.replicate 32 0)).toArray 27 (0, 0)) := heap_alloc_last _ _
  rw [HZ32.out] at c0 hr1
  go_enter Tryd.func7, Tryd.ntmps7
  go_wp2_with fail
  generalize hw1 : w.alloc _ = w1 at *
  clear hw1
  refine (refnew_any w1).mono ?_
  rintro e w2 ⟨a, rfl, ha, hR, c2⟩
  have hz2 := blk_keep hr1 c2 (fun f => f)
  have hwa : w.heap.size < a := Nat.lt_of_lt_of_le (lt_of_blk hr1) ha
  have cs : Chg (fun k => k = a) w2 (w2.setCell ⟨a, 9, none⟩ (.slice ad n c)) := (Chg.refl (fun k => k = a) w2).setCell (p := ⟨a, 9, none⟩) (.inl rfl) _
  have C2 := chg_then c0 c2
  have hx2 := row8_chg hx C2
  have hR3 : Rh (w2.setCell ⟨a, 9, none⟩ (.slice ad n c)) a Sha.I 0 (.slice ad n c) bs := by
    refine ⟨?_, hR.s8, ad, c, by rw [hl], ?_⟩
    · rw [blk_setk hR.blk]
      congr 2
    · rw [hl]
      by_cases h0 : 0 < n
      · exact row8_keep hx2 cs (fun y e h => by
          subst e
          have := hx.below h0 y rfl
          omega)
      · have hn0 : n = 0 := by omega
        subst hn0
        have hb0 : bs = [] := List.eq_nil_of_length_eq_zero hl
        subst hb0
        rcases hx.2 with ⟨e, h1, h2⟩ | ⟨y, e, _⟩
        · exact ⟨rfl, .inl ⟨e, h1, h2⟩⟩
        · exact ⟨rfl, .inr ⟨y, e, fun j u hu => by simp [up] at hu⟩⟩
  have cl := hR.list
  have fr : w2.frozen? ⟨a, 9, none⟩ = false := by simp [World.frozen?, hR.blk]
  have C3 : Chg (fun _ => False) w (w2.setCell ⟨a, 9, none⟩ (.slice ad n c)) := C2.trans cs (fun _ e => .inr (by omega))
  have hz3 := blk_keep hz2 cs (by omega)
  clear cs hx2 hR hz2 C2 c2 c0 hr1
  go_wp2_with fail
  generalize w2.setCell ⟨a, 9, none⟩ (.slice ad n c) = w3 at *
  clear cl fr
  refine (rhsum_any a Sha.I 0 (.slice ad n c) bs w3 Sha.I_st rfl hR3 hb (by omega) (by omega)).mono ?_
  rintro e w4 ⟨rfl, c4⟩
  have hz4 := blk_keep hz3 c4 (fun f => f)
  have C4 := chg_then C3 c4
  have hls : (Sha.sum Sha.I 0 bs).length = 32 := Sha.told_len _
  generalize hD : Sha.sum Sha.I 0 bs = D at *
  have HD : Hid (Sha.sum Sha.I 0 bs = D) := hD
  clear hD
  have hsz : (byts D).toArray.size = 32 := by rw [byts_size, hls]
  have hi32 : (Tryd.prog.info? 27).map (·.size) = some (byts D).toArray.size := by rw [hsz]; exact infoB32
  go_wp2_with (refine wpList_store_row rfl 27 (.tmp 2) (.tmp 10) rfl w.heap.size _ rfl rfl 27 _ hz4 hi32 (by rw [hsz]; rfl) (byts_one _) ?_)
  (try simp only [Exit.inBlock, Exit.then])
  refine bodyPost_ret (results_cell_row rfl _ _ w.heap.size 27 (byts D).toArray (0, 0) _ rfl (setRow_heap _ _ _ _ _ _ hz4) Tryd.underlying27 rfl hi32) rfl ⟨by rw [HD.out], ?_⟩
  exact C4.trans (T := fun b => b = w.heap.size) ⟨rfl, rfl, rfl, by simp, fun b _ hb => setRow_other _ _ _ _ hb⟩ (fun b hb => .inr (by omega))

/-- As lent lays it: the bytes, 165 behind them, in new memory. -/
structure Roomy (w : World) (g n cap : Nat) (ns : List Nat) : Prop where
  row : Row8 w (some ⟨g, 0, none⟩) (n + 1) cap (up (ns ++ [165]))
  fit : n + 1 ≤ cap

theorem Roomy.bytes {w : World} {g n cap : Nat} {ns : List Nat} (h : Roomy w g n cap ns) (hl : ns.length = n) : Row8 w (some ⟨g, 0, none⟩) n cap (up ns) := by
  have := row8_take h.row n (by omega)
  rw [← up_take, List.take_left' hl] at this
  exact this

theorem Roomy.new {w w' : World} {g n cap : Nat} {ns : List Nat} (h : Roomy w g n cap ns) (hc : Chg (fun _ => False) w w') : Roomy w' g n cap ns := ⟨row8_chg h.row hc, h.fit⟩

theorem Roomy.keep {w w' : World} {S : Nat → Prop} {g n cap : Nat} {ns : List Nat} (h : Roomy w g n cap ns) (hc : Chg S w w') (hS : ¬ S g) : Roomy w' g n cap ns :=
  ⟨row8_keep h.row hc (fun x e => by cases e; exact hS), h.fit⟩


set_option maxHeartbeats 1000000 in
theorem lent_any (a : Option Addr) (n c : Nat) (ns : List Nat) (w : World) (hx : Row8 w a n c (up ns)) (hn : n ≤ 140737488351232) :
    Calls Tryd.prog 5 #[.slice a n c] w fun e w' => ∃ g cap cur, e = .returned (.tuple #[.slice (some ⟨g, 0, none⟩) n cap, .slice (some ⟨g, 0, none⟩) (n + 1) cap]) ∧ Roomy w' g n cap ns ∧ w'.heap[g]? = some (.cells cur 5 (0, 0)) ∧ w.heap.size ≤ g ∧ g < w'.heap.size ∧ Chg (fun _ => False) w w' := by
  obtain ⟨i0, hi, hz0, hz1, hz2⟩ := info_parts info5
  have h0 := own_empty w
  have hc0 := chg_one w (.cells #[] 5)
  have hx0 := row8_chg hx hc0
  clear hx
  go_enter Tryd.func5, Tryd.ntmps5
  go_wp2_with (at_builtin; refine wpList_append_moved rfl _ _ 24 rfl w.heap.size 5 i0 (.int .u8 0) 1 1 Tryd.underlying24 hi hz0 hz1 hz2 rfl (by decide) _ 0 (cells8 []) rfl a n c rfl (cells8 (up ns)) h0 hx0.src (oneCells (up ns)) (by unfold maxLen; omega) (by omega) hc0.size ?_)
  intro v1 w1 ho1 hg1 _
  have hc1 : Chg (fun _ => False) w w1 := hc0.grown hg1 (fun k e => .inr ((h0.lt k e).1))
  rw [cells8_append, List.nil_append] at ho1
  obtain ⟨ba, bc, rfl, -, -⟩ := own_row8c ho1
  have hs1 := hc1.size
  clear hg1 h0 hc0 hx0
  go_wp2_with (at_builtin; refine wpList_append_moved rfl _ _ 24 rfl w.heap.size 5 i0 (.int .u8 0) 1 1 Tryd.underlying24 hi hz0 hz1 hz2 rfl (by decide) _ n (cells8 (up ns)) rfl (some ⟨w1.heap.size, 0, none⟩) 1 1 rfl [.int .u8 165] ((by simpa using ho1 : w1.ownsRow w.heap.size 5 1 (.slice ba n bc) n (cells8 (up ns))).alloc _) (row8_one w1 165 5).src (oneCells [165]) (by unfold maxLen; omega) (by omega) (by simp; omega) ?_)
  intro v2 w2 ho2 hg2 _
  have hc2 : Chg (fun _ => False) w w2 := (hc1.alloc _).grown hg2 (fun k e => .inr ((ho1.lt k (by simpa using e)).1))
  have ho3 : w2.ownsRow w.heap.size 5 1 v2 (n + 1) (cells8 (up (ns ++ [165]))) := by simpa [cells8, up] using ho2
  obtain ⟨g, cap, cur, rfl, hB, hg, hnc⟩ : ∃ g cap cur, v2 = .slice (some ⟨g, 0, none⟩) (n + 1) cap ∧ w.heap.size ≤ g ∧ w2.heap[g]? = some (.cells cur 5 (0, 0)) ∧ n + 1 ≤ cap := by
    rcases ho3.2 with ⟨_, e⟩ | ⟨g, cap, cur, rfl, hB, hg, hnc, _⟩
    · omega
    · exact ⟨g, cap, cur, rfl, hB, hg, hnc⟩
  obtain ⟨ad, cp, he, hr, hf⟩ := own_row8c ho3
  simp only [Value.slice.injEq, true_and] at he
  obtain ⟨rfl, rfl⟩ := he
  have HR : Hid (Roomy w2 g n cap ns) := ⟨hr, hf⟩
  have HC : Hid (Chg (fun _ => False) w w2) := hc2
  have HG : Hid (w2.heap[g]? = some (.cells cur 5 (0, 0))) := hg
  have hfn : n ≤ cap := by omega
  clear hr ho3 ho2 hg2 ho1 hc1 hc2 hg
  go_wp2
  (try simp only [Exit.inBlock, Exit.then])
  refine bodyPost_ret (results_tmp2 rfl _ _ _) rfl ?_
  exact ⟨g, cap, cur, rfl, HR.out, HG.out, hB, lt_of_blk HG.out, HC.out⟩

set_option maxHeartbeats 1000000 in
theorem kept_any (g n cap : Nat) (b : Option Addr) (c : Nat) (ns : List Nat) (w : World) (hl : Roomy w g n cap ns) (h : Row8 w b n c (up ns)) (hn : n ≤ 140737488351232) :
    Calls Tryd.prog 10 #[.slice (some ⟨g, 0, none⟩) (n + 1) cap, .slice b n c] w fun e w' => e = .returned (.bool true) ∧ Chg (fun _ => False) w w' := by
  have hx : ns.length = n := by rw [← up_length]; exact h.1
  have hv1 := conv8 h
  have hv2 := conv8 (hl.bytes hx)
  have hfit := hl.fit
  have hfit2 : n ≤ cap := by omega
  have c1 : w.cell? ⟨g, n, none⟩ = some (.int .u8 165) := by
    rcases hl.row.2 with ⟨e, _⟩ | ⟨x, e, hx2⟩
    · cases e
    · cases e
      have hadd : (⟨g, 0, none⟩ : Addr).add n = ⟨g, n, none⟩ := by unfold Addr.add; split <;> simp_all
      rw [← hadd]
      exact hx2 n _ (by simp [up, hx])
  generalize strOfNums (up ns) = s at *
  clear hl h hx
  go_enter Tryd.func10, Tryd.ntmps10
  go_wp2_with fail
  go_quiet (fail)
  go_wp2
  go_ret
  exact ⟨rfl, ⟨rfl, rfl, rfl, Nat.le_refl _, fun _ _ _ => rfl⟩⟩
end Go.Proofs.YtnedllhlmddmoabDoor
